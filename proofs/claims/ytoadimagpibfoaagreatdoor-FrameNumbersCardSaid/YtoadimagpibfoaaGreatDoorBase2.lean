/- Texts put together: S, DE, CB, CC, CD, DF, WA, RF, OB. -/
import Derived.Shelf.Strings.Builder1
import Derived.Shelf.Strings.Builder2
import Derived.Shelf.Strings.Trim
import Derived.Shelf.Small.Utf8
import Derived.Shelf.Small.Strs
import Derived.Shelf.Strings.BuilderF
import Derived.Shelf.Strings.BuilderK
import Derived.Shelf.Strings.Builder2Cap
import Derived.Shelf.Strconv.Atoi
import Derived.Shelf.Strconv.Itoa0
import Derived.Shelf.Strconv.Itoa1
import Derived.Shelf.LaysM
import Derived.Shelf.Strconv.Itoa2
import Derived.Shelf.Strconv.Itoa3
import Derived.Shelf.Strconv.AtoiErrFast
import Derived.Shelf.Strconv.ParseIntEmpty
import Derived.Shelf.Strconv.AtoiFail
import Derived.Shelf.Strconv.Clone
import Derived.Shelf.Strconv.SyntaxError
import Derived.Shelf.LaysC
import Derived.Shelf.Strconv.ToError
import Derived.Shelf.Strconv.Lower
import Derived.Shelf.Strconv.ParseUint10
import Derived.Shelf.Strconv.ParseUint10Empty
import Derived.Shelf.Strconv.ParseUint10Any
import Derived.Shelf.Strconv.ParseInt10
import Derived.Shelf.Strconv.AtoiLong
import Derived.Shelf.Strconv.AtoiInnerAll
import Derived.Shelf.Strconv.RangeError
import Derived.Shelf.Strconv.ToErrorRange
import Derived.Shelf.Strconv.AtoiAll
import Derived.Shelf.Strconv.ErrVarAll
import Derived.Shelf.Strings.Search1
import Derived.Shelf.Strings.Search2
import Derived.Shelf.Strings.Search3
import Derived.Shelf.Strings.Cut
import Derived.Shelf.Strings.Shaped
import Derived.Shelf.Strings.Prefix
import Derived.Shelf.Unicode.Decode
import Derived.Shelf.Strings.Runes
import Derived.Shelf.Strings.AsciiSet
import Derived.Shelf.Bits.Mul64
import Derived.Shelf.Strings.Repeat
import Derived.Shelf.Unicode.DecodeSlow
import Derived.Shelf.Unicode.DecodeAny
import Derived.Shelf.Unicode.DecodeLast
import Derived.Test.YtoadimagpibfoaaGreatDoorProg
import Derived.WideShapes
import Derived.Test.YtoadimagpibfoaaGreatDoorChecked
import Derived.WalkKit
import Derived.Lib.Hide
import Derived.Deep.WholeRow
import Derived.Deep.QuietTactic
import Derived.BigQuiet
import Derived.ShutString
import Derived.BigCall
import Derived.RegionTactic
import Derived.ChangeAlike
import Derived.Outline
import Derived.IntWalk
import Derived.RangeFuncNested
import Derived.RangeFuncBound
import Derived.RangeFuncCalls
import Derived.RangeFuncLeaves
import Derived.Maps.Own
import Derived.Maps.OwnSet
import Derived.Maps.AppendAt
import Derived.Below
import Derived.Deep.Quiet
import Derived.Test.YtoadimagpibfoaaGreatDoorBase1
set_option linter.unusedVariables false
/- The library's contracts at this translation. -/
namespace Go.Proofs
open Go.Shelf
def Tryz.lays169_ren : Go.Shelf.Ren := ⟨fun | 169 => 69 | n => n, fun | 70 => 89 | 9 => 9 | 0 => 0 | 72 => 91 | 37 => 61 | 127 => 110 | 3 => 3 | 5 => 5 | n => n, fun | n => n⟩
theorem Tryz.lays169 : Go.Proofs.Lays.n169 Tryz.prog Tryz.lays169_ren := {
  mixed := by kernel_rfl
  f169 := Tryz.func69.trans (congrArg some (by kernel_rfl))
  t0 := Tryz.underlying0
  a0 := Tryz.isAgg0
  z0 := Tryz.sizeOf0
  v0 := Tryz.zeroValue0
  t3 := Tryz.underlying3
  a3 := Tryz.isAgg3
  z3 := Tryz.sizeOf3
  v3 := Tryz.zeroValue3
  t9 := Tryz.underlying9
  a9 := Tryz.isAgg9
  z9 := Tryz.sizeOf9
  v9 := Tryz.zeroValue9
  t37 := Tryz.underlying61
  a37 := Tryz.isAgg61
  z37 := Tryz.sizeOf61
  v37 := Tryz.zeroValue61
  t70 := Tryz.underlying89
  a70 := Tryz.isAgg89
  z70 := Tryz.sizeOf89
  v70 := Tryz.zeroValue89
  t72 := Tryz.underlying91
  a72 := Tryz.isAgg91
  z72 := Tryz.sizeOf91
  v72 := Tryz.zeroValue91
  t127 := Tryz.underlying110
  a127 := Tryz.isAgg110
  z127 := Tryz.sizeOf110
  v127 := Tryz.zeroValue110 }
theorem Tryz.Builder_Extra_169 : Builder.Extra Tryz.prog Tryz.lays169_ren := {
  sizeBuilder := by kernel_rfl
  liesBuilder := by kernel_rfl
  t5 := Tryz.underlying5
  a5 := Tryz.isAgg5
  z5 := Tryz.sizeOf5
  v5 := Tryz.zeroValue5
  infoByte := by kernel_rfl
  cellsByte := by kernel_rfl
  sizeByte := by kernel_rfl
  neB5 := by decide }
open Go.RowKit in
theorem Tryz.Builder_String_any (B b : Nat) (l : List UInt8) (w : World) (h : Lib.IsBuilder 91 5 B b (Lib.byteCells l) w) (hBw : B ≤ w.heap.size) :
    Calls Tryz.prog 69 #[.pointer (some ⟨b, 0, none⟩)] w fun e w' => e = .returned (.string ⟨l.toArray⟩) ∧ Below B w w' := Any.Builder_String_any Tryz.lays169 Tryz.Builder_Extra_169 B b l w h hBw
def Tryz.lays160_ren : Go.Shelf.Ren := ⟨fun | 160 => 34 | 232 => 51 | 231 => 50 | 227 => 52 | 234 => 54 | 233 => 53 | 236 => 56 | 235 => 55 | 228 => 71 | 271 => 74 | 151 => 73 | 197 => 72 | 120 => 96 | 152 => 95 | 260 => 94 | 137 => 62 | 119 => 109 | 224 => 79 | 225 => 78 | 217 => 77 | 266 => 97 | n => n, fun | 9 => 9 | 4 => 4 | 3 => 3 | 5 => 5 | 117 => 77 | 116 => 76 | 0 => 0 | 124 => 80 | 21 => 21 | 105 => 96 | 46 => 60 | 119 => 131 | 139 => 134 | 138 => 133 | n => n, fun | 3 => 4 | 4 => 5 | n => n⟩
theorem Tryz.lays160 : Go.Proofs.Lays.n160 Tryz.prog Tryz.lays160_ren := {
  mixed := by kernel_rfl
  f119 := Tryz.func109.trans (congrArg some (by kernel_rfl))
  f120 := Tryz.func96.trans (congrArg some (by kernel_rfl))
  f137 := Tryz.func62.trans (congrArg some (by kernel_rfl))
  f151 := Tryz.func73.trans (congrArg some (by kernel_rfl))
  f152 := Tryz.func95.trans (congrArg some (by kernel_rfl))
  f160 := Tryz.func34.trans (congrArg some (by kernel_rfl))
  f197 := Tryz.func72.trans (congrArg some (by kernel_rfl))
  f217 := Tryz.func77.trans (congrArg some (by kernel_rfl))
  f224 := Tryz.func79.trans (congrArg some (by kernel_rfl))
  f225 := Tryz.func78.trans (congrArg some (by kernel_rfl))
  f227 := Tryz.func52.trans (congrArg some (by kernel_rfl))
  f228 := Tryz.func71.trans (congrArg some (by kernel_rfl))
  f231 := Tryz.func50.trans (congrArg some (by kernel_rfl))
  f232 := Tryz.func51.trans (congrArg some (by kernel_rfl))
  f233 := Tryz.func53.trans (congrArg some (by kernel_rfl))
  f234 := Tryz.func54.trans (congrArg some (by kernel_rfl))
  f235 := Tryz.func55.trans (congrArg some (by kernel_rfl))
  f236 := Tryz.func56.trans (congrArg some (by kernel_rfl))
  f260 := Tryz.func94.trans (congrArg some (by kernel_rfl))
  f266 := Tryz.func97.trans (congrArg some (by kernel_rfl))
  f271 := Tryz.func74.trans (congrArg some (by kernel_rfl))
  t0 := Tryz.underlying0
  a0 := Tryz.isAgg0
  z0 := Tryz.sizeOf0
  v0 := Tryz.zeroValue0
  t3 := Tryz.underlying3
  a3 := Tryz.isAgg3
  z3 := Tryz.sizeOf3
  v3 := Tryz.zeroValue3
  t4 := Tryz.underlying4
  a4 := Tryz.isAgg4
  z4 := Tryz.sizeOf4
  v4 := Tryz.zeroValue4
  t5 := Tryz.underlying5
  a5 := Tryz.isAgg5
  z5 := Tryz.sizeOf5
  v5 := Tryz.zeroValue5
  t9 := Tryz.underlying9
  a9 := Tryz.isAgg9
  z9 := Tryz.sizeOf9
  v9 := Tryz.zeroValue9
  t21 := Tryz.underlying21
  a21 := Tryz.isAgg21
  z21 := Tryz.sizeOf21
  v21 := Tryz.zeroValue21
  t46 := Tryz.underlying60
  a46 := Tryz.isAgg60
  z46 := Tryz.sizeOf60
  v46 := Tryz.zeroValue60
  t105 := Tryz.underlying96
  a105 := Tryz.isAgg96
  z105 := Tryz.sizeOf96
  v105 := Tryz.zeroValue96
  t116 := Tryz.underlying76
  a116 := Tryz.isAgg76
  z116 := Tryz.sizeOf76
  t117 := Tryz.underlying77
  a117 := Tryz.isAgg77
  z117 := Tryz.sizeOf77
  v117 := Tryz.zeroValue77
  t119 := Tryz.underlying131
  a119 := Tryz.isAgg131
  z119 := Tryz.sizeOf131
  t124 := Tryz.underlying80
  a124 := Tryz.isAgg80
  z124 := Tryz.sizeOf80
  v124 := Tryz.zeroValue80
  t138 := Tryz.underlying133
  a138 := Tryz.isAgg133
  z138 := Tryz.sizeOf133
  v138 := Tryz.zeroValue133
  t139 := Tryz.underlying134
  a139 := Tryz.isAgg134
  z139 := Tryz.sizeOf134
  v139 := Tryz.zeroValue134
  g3 := by kernel_rfl
  g4 := by kernel_rfl }
def Tryz.lays137_ren : Go.Shelf.Ren := ⟨fun | 137 => 62 | 217 => 77 | 266 => 97 | n => n, fun | 9 => 9 | 5 => 5 | 3 => 3 | n => n, fun | n => n⟩
theorem Tryz.lays137 : Go.Proofs.Lays.n137 Tryz.prog Tryz.lays137_ren := {
  mixed := by kernel_rfl
  f137 := Tryz.func62.trans (congrArg some (by kernel_rfl))
  f217 := Tryz.func77.trans (congrArg some (by kernel_rfl))
  f266 := Tryz.func97.trans (congrArg some (by kernel_rfl))
  t3 := Tryz.underlying3
  a3 := Tryz.isAgg3
  z3 := Tryz.sizeOf3
  v3 := Tryz.zeroValue3
  t5 := Tryz.underlying5
  a5 := Tryz.isAgg5
  z5 := Tryz.sizeOf5
  v5 := Tryz.zeroValue5
  t9 := Tryz.underlying9
  a9 := Tryz.isAgg9
  z9 := Tryz.sizeOf9
  v9 := Tryz.zeroValue9 }
open Go.RowKit in
theorem Tryz.strings_IndexByte (s : ByteArray) (c : Int) (w : World) :
    Calls Tryz.prog 62 #[.string s, .int .u8 c] w fun e w' => e = .returned (.int .i64 (Lib.indexByte s.data.toList c.toNat.toUInt8)) ∧ w' = w := Any.strings_IndexByte Tryz.lays137 s c w
open Go.RowKit in
theorem Tryz.Builder_String_any_f (B b : Nat) (l : List UInt8) (w : World) (h : Lib.IsBuilderF 91 5 B b (Lib.byteCells l) w) (hBw : B ≤ w.heap.size) :
    Calls Tryz.prog 69 #[.pointer (some ⟨b, 0, none⟩)] w fun e w' => e = .returned (.string ⟨l.toArray⟩) ∧ (Lib.IsBuilderF 91 5 B b (Lib.byteCells l) w' ∧ Below B w w') := Any.Builder_String_any_f Tryz.lays169 Tryz.Builder_Extra_169 B b l w h hBw
open Go.RowKit in
theorem Tryz.Builder_String_any_k (B b : Nat) (l : List UInt8) (w : World) (h : Lib.IsBuilderF 91 5 B b (Lib.byteCells l) w) (hBw : B ≤ w.heap.size) :
    Calls Tryz.prog 69 #[.pointer (some ⟨b, 0, none⟩)] w fun e w' => e = .returned (.string ⟨l.toArray⟩) ∧ (Lib.IsBuilderF 91 5 B b (Lib.byteCells l) w' ∧ Below B w w' ∧ Lib.OthersKept 5 (some b) w w') := Any.Builder_String_any_k Tryz.lays169 Tryz.Builder_Extra_169 B b l w h hBw
def Tryz.laysM171_ren : Go.Shelf.Ren := ⟨fun | 171 => 30 | 243 => 47 | 246 => 70 | 283 => 90 | 284 => 91 | 285 => 92 | 286 => 93 | 129 => 105 | 317 => 104 | 318 => 106 | 319 => 107 | 320 => 108 | 337 => 112 | 338 => 113 | n => n, fun | 3 => 3 | 9 => 9 | 2 => 2 | 4 => 4 | 171 => 111 | 0 => 0 | 53 => 72 | 37 => 61 | 5 => 5 | 173 => 114 | 212 => 128 | 51 => 33 | 20 => 20 | 213 => 129 | 46 => 60 | 232 => 141 | 233 => 142 | n => n, fun | 17 => 3 | 18 => 6 | 19 => 7 | n => n⟩
theorem Tryz.laysM171 : Go.Proofs.LaysM.n171 Tryz.prog Tryz.laysM171_ren := {
  mixed := by kernel_rfl
  f129 := Tryz.func105.trans (congrArg some (by kernel_rfl))
  f171 := Tryz.func30.trans (congrArg some (by kernel_rfl))
  f243 := Tryz.func47.trans (congrArg some (by kernel_rfl))
  f246 := Tryz.func70.trans (congrArg some (by kernel_rfl))
  f283 := Tryz.func90.trans (congrArg some (by kernel_rfl))
  f284 := Tryz.func91.trans (congrArg some (by kernel_rfl))
  f285 := Tryz.func92.trans (congrArg some (by kernel_rfl))
  f286 := Tryz.func93.trans (congrArg some (by kernel_rfl))
  f317 := Tryz.func104.trans (congrArg some (by kernel_rfl))
  f318 := Tryz.func106.trans (congrArg some (by kernel_rfl))
  f319 := Tryz.func107.trans (congrArg some (by kernel_rfl))
  f320 := Tryz.func108.trans (congrArg some (by kernel_rfl))
  f337 := Tryz.func112.trans (congrArg some (by kernel_rfl))
  f338 := Tryz.func113.trans (congrArg some (by kernel_rfl))
  t0 := Tryz.underlying0
  a0 := Tryz.isAgg0
  z0 := Tryz.sizeOf0
  v0 := Tryz.zeroValue0
  t2 := Tryz.underlying2
  a2 := Tryz.isAgg2
  z2 := Tryz.sizeOf2
  v2 := Tryz.zeroValue2
  t3 := Tryz.underlying3
  a3 := Tryz.isAgg3
  z3 := Tryz.sizeOf3
  v3 := Tryz.zeroValue3
  t4 := Tryz.underlying4
  a4 := Tryz.isAgg4
  z4 := Tryz.sizeOf4
  v4 := Tryz.zeroValue4
  t5 := Tryz.underlying5
  a5 := Tryz.isAgg5
  z5 := Tryz.sizeOf5
  v5 := Tryz.zeroValue5
  t9 := Tryz.underlying9
  a9 := Tryz.isAgg9
  z9 := Tryz.sizeOf9
  v9 := Tryz.zeroValue9
  t20 := Tryz.underlying20
  a20 := Tryz.isAgg20
  z20 := Tryz.sizeOf20
  v20 := Tryz.zeroValue20
  t37 := Tryz.underlying61
  a37 := Tryz.isAgg61
  z37 := Tryz.sizeOf61
  v37 := Tryz.zeroValue61
  t46 := Tryz.underlying60
  a46 := Tryz.isAgg60
  z46 := Tryz.sizeOf60
  v46 := Tryz.zeroValue60
  t51 := Tryz.underlying33
  a51 := Tryz.isAgg33
  z51 := Tryz.sizeOf33
  v51 := Tryz.zeroValue33
  t53 := Tryz.underlying72
  a53 := Tryz.isAgg72
  z53 := Tryz.sizeOf72
  v53 := Tryz.zeroValue72
  t171 := Tryz.underlying111
  a171 := Tryz.isAgg111
  z171 := Tryz.sizeOf111
  v171 := Tryz.zeroValue111
  t173 := Tryz.underlying114
  a173 := Tryz.isAgg114
  z173 := Tryz.sizeOf114
  v173 := Tryz.zeroValue114
  t212 := Tryz.underlying128
  a212 := Tryz.isAgg128
  z212 := Tryz.sizeOf128
  v212 := Tryz.zeroValue128
  t213 := Tryz.underlying129
  a213 := Tryz.isAgg129
  z213 := Tryz.sizeOf129
  t232 := Tryz.underlying141
  a232 := Tryz.isAgg141
  z232 := Tryz.sizeOf141
  v232 := Tryz.zeroValue141
  t233 := Tryz.underlying142
  a233 := Tryz.isAgg142
  z233 := Tryz.sizeOf142
  v233 := Tryz.zeroValue142
  g17 := by kernel_rfl
  g18 := by kernel_rfl
  g19 := by kernel_rfl
  i0 := by kernel_rfl
  i2 := by kernel_rfl
  i3 := by kernel_rfl
  i4 := by kernel_rfl
  i5 := by kernel_rfl
  i9 := by kernel_rfl
  i20 := by kernel_rfl
  i37 := by kernel_rfl
  i46 := by kernel_rfl
  i51 := by kernel_rfl
  i53 := by kernel_rfl
  i171 := by kernel_rfl
  i173 := by kernel_rfl
  i212 := by kernel_rfl
  i232 := by kernel_rfl
  i233 := by kernel_rfl
  m17 := by kernel_rfl
  m18 := by kernel_rfl
  m19 := by kernel_rfl }
open Go.RowKit Go.Sort Go.Lib in
theorem Tryz.strconv_Itoa (n : Int) (h0 : -9223372036854775808 ≤ n) (h1 : n ≤ 9223372036854775807) (w : World) (htab : Lib.TabIs Tryz.prog w "internal/strconv.uint64pow10" .u64 Lib.pow10Tab) :
    Calls Tryz.prog 30 #[.int .i64 n] w fun e w' => e = .returned (.string ⟨(Lib.itoa n).toArray⟩) ∧ ∃ k os, w' = grow (w.drewN k) os := Any.strconv_Itoa Tryz.laysM171 n h0 h1 w htab
def Tryz.laysC172_ren : Go.Shelf.Ren := ⟨fun | 172 => 45 | 244 => 63 | 245 => 64 | 247 => 81 | 279 => 82 | 280 => 83 | 281 => 84 | 282 => 85 | 287 => 99 | 316 => 100 | 171 => 30 | 205 => 101 | 321 => 110 | 322 => 111 | 243 => 47 | 246 => 70 | 283 => 90 | 284 => 91 | 285 => 92 | 286 => 93 | 129 => 105 | 317 => 104 | 318 => 106 | 319 => 107 | 320 => 108 | 337 => 112 | 338 => 113 | n => n, fun | 9 => 9 | 3 => 3 | 75 => 27 | 76 => 68 | 4 => 4 | 5 => 5 | 167 => 100 | 37 => 61 | 0 => 0 | 85 => 101 | 2 => 2 | 168 => 103 | 53 => 72 | 175 => 118 | 46 => 60 | 210 => 122 | 127 => 110 | 145 => 139 | 143 => 137 | 21 => 21 | 171 => 111 | 173 => 114 | 212 => 128 | 51 => 33 | 20 => 20 | 213 => 129 | 232 => 141 | 233 => 142 | 80 => 94 | n => n, fun | 15 => 1 | 16 => 2 | 17 => 3 | 18 => 6 | 19 => 7 | n => n⟩
theorem Tryz.laysC172 : Go.Proofs.LaysC.n172 Tryz.prog Tryz.laysC172_ren := {
  mixed := by kernel_rfl
  f129 := Tryz.func105.trans (congrArg some (by kernel_rfl))
  f171 := Tryz.func30.trans (congrArg some (by kernel_rfl))
  f172 := Tryz.func45.trans (congrArg some (by kernel_rfl))
  f205 := Tryz.func101.trans (congrArg some (by kernel_rfl))
  f243 := Tryz.func47.trans (congrArg some (by kernel_rfl))
  f244 := Tryz.func63.trans (congrArg some (by kernel_rfl))
  f245 := Tryz.func64.trans (congrArg some (by kernel_rfl))
  f246 := Tryz.func70.trans (congrArg some (by kernel_rfl))
  f247 := Tryz.func81.trans (congrArg some (by kernel_rfl))
  f279 := Tryz.func82.trans (congrArg some (by kernel_rfl))
  f280 := Tryz.func83.trans (congrArg some (by kernel_rfl))
  f281 := Tryz.func84.trans (congrArg some (by kernel_rfl))
  f282 := Tryz.func85.trans (congrArg some (by kernel_rfl))
  f283 := Tryz.func90.trans (congrArg some (by kernel_rfl))
  f284 := Tryz.func91.trans (congrArg some (by kernel_rfl))
  f285 := Tryz.func92.trans (congrArg some (by kernel_rfl))
  f286 := Tryz.func93.trans (congrArg some (by kernel_rfl))
  f287 := Tryz.func99.trans (congrArg some (by kernel_rfl))
  f316 := Tryz.func100.trans (congrArg some (by kernel_rfl))
  f317 := Tryz.func104.trans (congrArg some (by kernel_rfl))
  f318 := Tryz.func106.trans (congrArg some (by kernel_rfl))
  f319 := Tryz.func107.trans (congrArg some (by kernel_rfl))
  f320 := Tryz.func108.trans (congrArg some (by kernel_rfl))
  f321 := Tryz.func110.trans (congrArg some (by kernel_rfl))
  f322 := Tryz.func111.trans (congrArg some (by kernel_rfl))
  f337 := Tryz.func112.trans (congrArg some (by kernel_rfl))
  f338 := Tryz.func113.trans (congrArg some (by kernel_rfl))
  t0 := Tryz.underlying0
  a0 := Tryz.isAgg0
  z0 := Tryz.sizeOf0
  v0 := Tryz.zeroValue0
  t2 := Tryz.underlying2
  a2 := Tryz.isAgg2
  z2 := Tryz.sizeOf2
  v2 := Tryz.zeroValue2
  t3 := Tryz.underlying3
  a3 := Tryz.isAgg3
  z3 := Tryz.sizeOf3
  v3 := Tryz.zeroValue3
  t4 := Tryz.underlying4
  a4 := Tryz.isAgg4
  z4 := Tryz.sizeOf4
  v4 := Tryz.zeroValue4
  t5 := Tryz.underlying5
  a5 := Tryz.isAgg5
  z5 := Tryz.sizeOf5
  v5 := Tryz.zeroValue5
  t9 := Tryz.underlying9
  a9 := Tryz.isAgg9
  z9 := Tryz.sizeOf9
  v9 := Tryz.zeroValue9
  t20 := Tryz.underlying20
  a20 := Tryz.isAgg20
  z20 := Tryz.sizeOf20
  v20 := Tryz.zeroValue20
  t21 := Tryz.underlying21
  a21 := Tryz.isAgg21
  z21 := Tryz.sizeOf21
  v21 := Tryz.zeroValue21
  t37 := Tryz.underlying61
  a37 := Tryz.isAgg61
  z37 := Tryz.sizeOf61
  v37 := Tryz.zeroValue61
  t46 := Tryz.underlying60
  a46 := Tryz.isAgg60
  z46 := Tryz.sizeOf60
  v46 := Tryz.zeroValue60
  t51 := Tryz.underlying33
  a51 := Tryz.isAgg33
  z51 := Tryz.sizeOf33
  v51 := Tryz.zeroValue33
  t53 := Tryz.underlying72
  a53 := Tryz.isAgg72
  z53 := Tryz.sizeOf72
  v53 := Tryz.zeroValue72
  t75 := Tryz.underlying27
  a75 := Tryz.isAgg27
  z75 := Tryz.sizeOf27
  v75 := Tryz.zeroValue27
  t76 := Tryz.underlying68
  a76 := Tryz.isAgg68
  z76 := Tryz.sizeOf68
  v76 := Tryz.zeroValue68
  t85 := Tryz.underlying101
  a85 := Tryz.isAgg101
  z85 := Tryz.sizeOf101
  v85 := Tryz.zeroValue101
  t127 := Tryz.underlying110
  a127 := Tryz.isAgg110
  z127 := Tryz.sizeOf110
  v127 := Tryz.zeroValue110
  t143 := Tryz.underlying137
  a143 := Tryz.isAgg137
  z143 := Tryz.sizeOf137
  v143 := Tryz.zeroValue137
  t145 := Tryz.underlying139
  a145 := Tryz.isAgg139
  z145 := Tryz.sizeOf139
  v145 := Tryz.zeroValue139
  t167 := Tryz.underlying100
  a167 := Tryz.isAgg100
  z167 := Tryz.sizeOf100
  v167 := Tryz.zeroValue100
  t168 := Tryz.underlying103
  a168 := Tryz.isAgg103
  z168 := Tryz.sizeOf103
  v168 := Tryz.zeroValue103
  t171 := Tryz.underlying111
  a171 := Tryz.isAgg111
  z171 := Tryz.sizeOf111
  v171 := Tryz.zeroValue111
  t173 := Tryz.underlying114
  a173 := Tryz.isAgg114
  z173 := Tryz.sizeOf114
  v173 := Tryz.zeroValue114
  t175 := Tryz.underlying118
  a175 := Tryz.isAgg118
  z175 := Tryz.sizeOf118
  v175 := Tryz.zeroValue118
  t210 := Tryz.underlying122
  a210 := Tryz.isAgg122
  z210 := Tryz.sizeOf122
  v210 := Tryz.zeroValue122
  t212 := Tryz.underlying128
  a212 := Tryz.isAgg128
  z212 := Tryz.sizeOf128
  v212 := Tryz.zeroValue128
  t213 := Tryz.underlying129
  a213 := Tryz.isAgg129
  z213 := Tryz.sizeOf129
  t232 := Tryz.underlying141
  a232 := Tryz.isAgg141
  z232 := Tryz.sizeOf141
  v232 := Tryz.zeroValue141
  t233 := Tryz.underlying142
  a233 := Tryz.isAgg142
  z233 := Tryz.sizeOf142
  v233 := Tryz.zeroValue142
  g15 := by kernel_rfl
  g16 := by kernel_rfl
  g17 := by kernel_rfl
  g18 := by kernel_rfl
  g19 := by kernel_rfl
  t80 := Tryz.underlying94
  a80 := Tryz.isAgg94
  z80 := Tryz.sizeOf94
  v80 := Tryz.zeroValue94
  i0 := by kernel_rfl
  i2 := by kernel_rfl
  i3 := by kernel_rfl
  i4 := by kernel_rfl
  i5 := by kernel_rfl
  i9 := by kernel_rfl
  i20 := by kernel_rfl
  i21 := by kernel_rfl
  i37 := by kernel_rfl
  i46 := by kernel_rfl
  i51 := by kernel_rfl
  i53 := by kernel_rfl
  i75 := by kernel_rfl
  i76 := by kernel_rfl
  i80 := by kernel_rfl
  i85 := by kernel_rfl
  i127 := by kernel_rfl
  i143 := by kernel_rfl
  i145 := by kernel_rfl
  i167 := by kernel_rfl
  i168 := by kernel_rfl
  i171 := by kernel_rfl
  i173 := by kernel_rfl
  i175 := by kernel_rfl
  i210 := by kernel_rfl
  i212 := by kernel_rfl
  i232 := by kernel_rfl
  i233 := by kernel_rfl
  m15 := by kernel_rfl
  m16 := by kernel_rfl
  m17 := by kernel_rfl
  m18 := by kernel_rfl
  m19 := by kernel_rfl
  c0 := by kernel_rfl
  c2 := by kernel_rfl
  c3 := by kernel_rfl
  c4 := by kernel_rfl
  c5 := by kernel_rfl
  c9 := by kernel_rfl
  c20 := by kernel_rfl
  c21 := by kernel_rfl
  c37 := by kernel_rfl
  c46 := by kernel_rfl
  c51 := by kernel_rfl
  c53 := by kernel_rfl
  c75 := by kernel_rfl
  c76 := by kernel_rfl
  c80 := by kernel_rfl
  c85 := by kernel_rfl
  c127 := by kernel_rfl
  c143 := by kernel_rfl
  c145 := by kernel_rfl
  c167 := by kernel_rfl
  c168 := by kernel_rfl
  c171 := by kernel_rfl
  c173 := by kernel_rfl
  c175 := by kernel_rfl
  c210 := by kernel_rfl
  c212 := by kernel_rfl
  c213 := by kernel_rfl
  c232 := by kernel_rfl
  c233 := by kernel_rfl }
open Go.RowKit in
theorem Tryz.strconv_Atoi_ok (s : ByteArray) (hmax : s.size ≤ 9223372036854775806) (v : Int) (h : Lib.atoiAll s.data.toList = .ok v) (w : World) :
    Calls Tryz.prog 45 #[.string s] w fun e w' => e = .returned (.tuple #[.int .i64 v, .nilIface]) ∧ (w' = w ∨ ∃ t, w' = Lib.bytesWorld w 5 t) := Any.strconv_Atoi_ok Tryz.laysC172 s hmax v h w
open Go.RowKit in
theorem Tryz.strconv_Atoi_syntax (s : ByteArray) (hlim : s.size ≤ 281474976710656) (h : Lib.atoiAll s.data.toList = Lib.NumEnd.syntax) (ev : Value) (w : World) (hv : w.cell? ⟨1, 0, none⟩ = some ev) (hev : ev = .nilIface ∨ ∃ te pe, ev = .iface te pe) :
    Calls Tryz.prog 45 #[.string s] w fun e w' => ∃ N, e = .returned (.tuple #[.int .i64 (0), .iface 103 (.pointer (some ⟨N, 0, none⟩))]) ∧ w.heap.size ≤ N ∧ w'.heap[N]? = some (.cells #[.string ⟨#[65, 116, 111, 105]⟩, .string s, ev] 122 (0, 0)) ∧ Below w.heap.size w w' := Any.strconv_Atoi_syntax Tryz.laysC172 s hlim h ev w hv hev
open Go.RowKit in
theorem Tryz.strconv_Atoi_range (s : ByteArray) (hlim : s.size ≤ 281474976710656) (h : Lib.atoiAll s.data.toList = .range) (ev : Value) (w : World) (hv : w.cell? ⟨2, 0, none⟩ = some ev) (hev : ev = .nilIface ∨ ∃ te pe, ev = .iface te pe) :
    Calls Tryz.prog 45 #[.string s] w fun e w' => ∃ N, e = .returned (.tuple #[.int .i64 (Lib.atoiSat s.data.toList), .iface 103 (.pointer (some ⟨N, 0, none⟩))]) ∧ w.heap.size ≤ N ∧ w'.heap[N]? = some (.cells #[.string ⟨#[65, 116, 111, 105]⟩, .string s, ev] 122 (0, 0)) ∧ Below w.heap.size w w' := Any.strconv_Atoi_range Tryz.laysC172 s hlim h ev w hv hev
open Go.RowKit in
theorem Tryz.strconv_Atoi_syntax_var (s : ByteArray) (hlim : s.size ≤ 281474976710656) (h : Lib.atoiAll s.data.toList = Lib.NumEnd.syntax) (tp : TypeId) (p : Value) (w : World) (hvar : w.var? Tryz.prog "strconv.ErrSyntax" = some #[.iface tp p]) :
    Calls Tryz.prog 45 #[.string s] w fun e w' => ∃ N, e = .returned (.tuple #[.int .i64 0, .iface 103 (.pointer (some ⟨N, 0, none⟩))]) ∧ w.heap.size ≤ N ∧ w'.heap[N]? = some (.cells #[.string ⟨#[65, 116, 111, 105]⟩, .string s, .iface tp p] 122 (0, 0)) ∧ Below w.heap.size w w' := Any.strconv_Atoi_syntax_var Tryz.laysC172 s hlim h tp p w hvar
open Go.RowKit in
theorem Tryz.strconv_Atoi_range_var (s : ByteArray) (hlim : s.size ≤ 281474976710656) (h : Lib.atoiAll s.data.toList = .range) (tp : TypeId) (p : Value) (w : World) (hvar : w.var? Tryz.prog "strconv.ErrRange" = some #[.iface tp p]) :
    Calls Tryz.prog 45 #[.string s] w fun e w' => ∃ N, e = .returned (.tuple #[.int .i64 (Lib.atoiSat s.data.toList), .iface 103 (.pointer (some ⟨N, 0, none⟩))]) ∧ w.heap.size ≤ N ∧ w'.heap[N]? = some (.cells #[.string ⟨#[65, 116, 111, 105]⟩, .string s, .iface tp p] 122 (0, 0)) ∧ Below w.heap.size w w' := Any.strconv_Atoi_range_var Tryz.laysC172 s hlim h tp p w hvar
def Tryz.lays219_ren : Go.Shelf.Ren := ⟨fun | 219 => 60 | 217 => 77 | 225 => 78 | 224 => 79 | 267 => 80 | 266 => 97 | 314 => 98 | n => n, fun | 9 => 9 | 3 => 3 | 4 => 4 | 5 => 5 | 46 => 60 | 146 => 106 | 51 => 33 | n => n, fun | 1 => 0 | n => n⟩
theorem Tryz.lays219 : Go.Proofs.Lays.n219 Tryz.prog Tryz.lays219_ren := {
  mixed := by kernel_rfl
  f217 := Tryz.func77.trans (congrArg some (by kernel_rfl))
  f219 := Tryz.func60.trans (congrArg some (by kernel_rfl))
  f224 := Tryz.func79.trans (congrArg some (by kernel_rfl))
  f225 := Tryz.func78.trans (congrArg some (by kernel_rfl))
  f266 := Tryz.func97.trans (congrArg some (by kernel_rfl))
  f267 := Tryz.func80.trans (congrArg some (by kernel_rfl))
  f314 := Tryz.func98.trans (congrArg some (by kernel_rfl))
  t3 := Tryz.underlying3
  a3 := Tryz.isAgg3
  z3 := Tryz.sizeOf3
  v3 := Tryz.zeroValue3
  t4 := Tryz.underlying4
  a4 := Tryz.isAgg4
  z4 := Tryz.sizeOf4
  v4 := Tryz.zeroValue4
  t5 := Tryz.underlying5
  a5 := Tryz.isAgg5
  z5 := Tryz.sizeOf5
  v5 := Tryz.zeroValue5
  t9 := Tryz.underlying9
  a9 := Tryz.isAgg9
  z9 := Tryz.sizeOf9
  v9 := Tryz.zeroValue9
  t46 := Tryz.underlying60
  a46 := Tryz.isAgg60
  z46 := Tryz.sizeOf60
  v46 := Tryz.zeroValue60
  t51 := Tryz.underlying33
  a51 := Tryz.isAgg33
  z51 := Tryz.sizeOf33
  v51 := Tryz.zeroValue33
  t146 := Tryz.underlying106
  a146 := Tryz.isAgg106
  z146 := Tryz.sizeOf106
  v146 := Tryz.zeroValue106
  g1 := by kernel_rfl }
open Go.RowKit Go.Lib in
theorem Tryz.stringslite_Index_one (s : ByteArray) (c : UInt8) (w : World) :
    Calls Tryz.prog 60 #[.string s, .string ⟨#[c]⟩] w fun e w' => e = .returned (.int .i64 (Lib.indexByte s.data.toList c)) ∧ w' = w := Any.stringslite_Index_one Tryz.lays219 s c w
def Tryz.lays143_ren : Go.Shelf.Ren := ⟨fun | 143 => 49 | 219 => 60 | 217 => 77 | 225 => 78 | 224 => 79 | 267 => 80 | 266 => 97 | 314 => 98 | n => n, fun | 9 => 9 | 3 => 3 | 4 => 4 | 5 => 5 | 46 => 60 | 146 => 106 | 51 => 33 | n => n, fun | 1 => 0 | n => n⟩
theorem Tryz.lays143 : Go.Proofs.Lays.n143 Tryz.prog Tryz.lays143_ren := {
  mixed := by kernel_rfl
  f143 := Tryz.func49.trans (congrArg some (by kernel_rfl))
  f217 := Tryz.func77.trans (congrArg some (by kernel_rfl))
  f219 := Tryz.func60.trans (congrArg some (by kernel_rfl))
  f224 := Tryz.func79.trans (congrArg some (by kernel_rfl))
  f225 := Tryz.func78.trans (congrArg some (by kernel_rfl))
  f266 := Tryz.func97.trans (congrArg some (by kernel_rfl))
  f267 := Tryz.func80.trans (congrArg some (by kernel_rfl))
  f314 := Tryz.func98.trans (congrArg some (by kernel_rfl))
  t3 := Tryz.underlying3
  a3 := Tryz.isAgg3
  z3 := Tryz.sizeOf3
  v3 := Tryz.zeroValue3
  t4 := Tryz.underlying4
  a4 := Tryz.isAgg4
  z4 := Tryz.sizeOf4
  v4 := Tryz.zeroValue4
  t5 := Tryz.underlying5
  a5 := Tryz.isAgg5
  z5 := Tryz.sizeOf5
  v5 := Tryz.zeroValue5
  t9 := Tryz.underlying9
  a9 := Tryz.isAgg9
  z9 := Tryz.sizeOf9
  v9 := Tryz.zeroValue9
  t46 := Tryz.underlying60
  a46 := Tryz.isAgg60
  z46 := Tryz.sizeOf60
  v46 := Tryz.zeroValue60
  t51 := Tryz.underlying33
  a51 := Tryz.isAgg33
  z51 := Tryz.sizeOf33
  v51 := Tryz.zeroValue33
  t146 := Tryz.underlying106
  a146 := Tryz.isAgg106
  z146 := Tryz.sizeOf106
  v146 := Tryz.zeroValue106
  g1 := by kernel_rfl }
open Go.RowKit Go.Lib in
theorem Tryz.strings_Index_one (s : ByteArray) (c : UInt8) (w : World) :
    Calls Tryz.prog 49 #[.string s, .string ⟨#[c]⟩] w fun e w' => e = .returned (.int .i64 (Lib.indexByte s.data.toList c)) ∧ w' = w := Any.strings_Index_one Tryz.lays143 s c w
def Tryz.lays144_ren : Go.Shelf.Ren := ⟨fun | 144 => 33 | 143 => 49 | 219 => 60 | 217 => 77 | 225 => 78 | 224 => 79 | 267 => 80 | 266 => 97 | 314 => 98 | n => n, fun | 9 => 9 | 4 => 4 | 3 => 3 | 5 => 5 | 46 => 60 | 146 => 106 | 51 => 33 | n => n, fun | 1 => 0 | n => n⟩
theorem Tryz.lays144 : Go.Proofs.Lays.n144 Tryz.prog Tryz.lays144_ren := {
  mixed := by kernel_rfl
  f143 := Tryz.func49.trans (congrArg some (by kernel_rfl))
  f144 := Tryz.func33.trans (congrArg some (by kernel_rfl))
  f217 := Tryz.func77.trans (congrArg some (by kernel_rfl))
  f219 := Tryz.func60.trans (congrArg some (by kernel_rfl))
  f224 := Tryz.func79.trans (congrArg some (by kernel_rfl))
  f225 := Tryz.func78.trans (congrArg some (by kernel_rfl))
  f266 := Tryz.func97.trans (congrArg some (by kernel_rfl))
  f267 := Tryz.func80.trans (congrArg some (by kernel_rfl))
  f314 := Tryz.func98.trans (congrArg some (by kernel_rfl))
  t3 := Tryz.underlying3
  a3 := Tryz.isAgg3
  z3 := Tryz.sizeOf3
  v3 := Tryz.zeroValue3
  t4 := Tryz.underlying4
  a4 := Tryz.isAgg4
  z4 := Tryz.sizeOf4
  v4 := Tryz.zeroValue4
  t5 := Tryz.underlying5
  a5 := Tryz.isAgg5
  z5 := Tryz.sizeOf5
  v5 := Tryz.zeroValue5
  t9 := Tryz.underlying9
  a9 := Tryz.isAgg9
  z9 := Tryz.sizeOf9
  v9 := Tryz.zeroValue9
  t46 := Tryz.underlying60
  a46 := Tryz.isAgg60
  z46 := Tryz.sizeOf60
  v46 := Tryz.zeroValue60
  t51 := Tryz.underlying33
  a51 := Tryz.isAgg33
  z51 := Tryz.sizeOf33
  v51 := Tryz.zeroValue33
  t146 := Tryz.underlying106
  a146 := Tryz.isAgg106
  z146 := Tryz.sizeOf106
  v146 := Tryz.zeroValue106
  g1 := by kernel_rfl }
open Go.RowKit Go.Lib in
theorem Tryz.strings_Contains_one (s : ByteArray) (c : UInt8) (w : World) :
    Calls Tryz.prog 33 #[.string s, .string ⟨#[c]⟩] w fun e w' => e = .returned (.bool (decide (0 ≤ Lib.indexByte s.data.toList c))) ∧ w' = w := Any.strings_Contains_one Tryz.lays144 s c w
def Tryz.lays99_ren : Go.Shelf.Ren := ⟨fun | 99 => 17 | 206 => 32 | n => n, fun | 9 => 9 | 4 => 4 | 3 => 3 | n => n, fun | n => n⟩
theorem Tryz.lays99 : Go.Proofs.Lays.n99 Tryz.prog Tryz.lays99_ren := {
  mixed := by kernel_rfl
  f99 := Tryz.func17.trans (congrArg some (by kernel_rfl))
  f206 := Tryz.func32.trans (congrArg some (by kernel_rfl))
  t3 := Tryz.underlying3
  a3 := Tryz.isAgg3
  z3 := Tryz.sizeOf3
  v3 := Tryz.zeroValue3
  t4 := Tryz.underlying4
  a4 := Tryz.isAgg4
  z4 := Tryz.sizeOf4
  v4 := Tryz.zeroValue4
  t9 := Tryz.underlying9
  a9 := Tryz.isAgg9
  z9 := Tryz.sizeOf9
  v9 := Tryz.zeroValue9 }
open Go.RowKit Go.Lib in
theorem Tryz.strings_HasPrefix (s p : ByteArray) (w : World) :
    Calls Tryz.prog 17 #[.string s, .string p] w fun e w' => e = .returned (.bool (Lib.hasPrefix s.data.toList p.data.toList)) ∧ w' = w := Any.strings_HasPrefix Tryz.lays99 s p w
def Tryz.lays101_ren : Go.Shelf.Ren := ⟨fun | 101 => 43 | 208 => 61 | 206 => 32 | n => n, fun | 9 => 9 | 4 => 4 | 3 => 3 | n => n, fun | n => n⟩
theorem Tryz.lays101 : Go.Proofs.Lays.n101 Tryz.prog Tryz.lays101_ren := {
  mixed := by kernel_rfl
  f101 := Tryz.func43.trans (congrArg some (by kernel_rfl))
  f206 := Tryz.func32.trans (congrArg some (by kernel_rfl))
  f208 := Tryz.func61.trans (congrArg some (by kernel_rfl))
  t3 := Tryz.underlying3
  a3 := Tryz.isAgg3
  z3 := Tryz.sizeOf3
  v3 := Tryz.zeroValue3
  t4 := Tryz.underlying4
  a4 := Tryz.isAgg4
  z4 := Tryz.sizeOf4
  v4 := Tryz.zeroValue4
  t9 := Tryz.underlying9
  a9 := Tryz.isAgg9
  z9 := Tryz.sizeOf9
  v9 := Tryz.zeroValue9 }
open Go.RowKit Go.Lib in
theorem Tryz.strings_TrimPrefix (s p : ByteArray) (w : World) :
    Calls Tryz.prog 43 #[.string s, .string p] w fun e w' => e = .returned (.string ⟨(Lib.trimPrefix s.data.toList p.data.toList).toArray⟩) ∧ w' = w := Any.strings_TrimPrefix Tryz.lays101 s p w
def Tryz.lays105_ren : Go.Shelf.Ren := ⟨fun | 105 => 46 | 212 => 65 | 99 => 17 | 165 => 66 | 166 => 67 | 170 => 68 | 169 => 69 | 263 => 86 | 264 => 87 | 206 => 32 | 240 => 88 | 241 => 89 | 276 => 102 | 277 => 103 | n => n, fun | 9 => 9 | 3 => 3 | 4 => 4 | 20 => 20 | 0 => 0 | 46 => 60 | 109 => 87 | 5 => 5 | 72 => 91 | 76 => 68 | 51 => 33 | 146 => 106 | 53 => 72 | 148 => 108 | 70 => 89 | 37 => 61 | 75 => 27 | 127 => 110 | 164 => 124 | 80 => 94 | n => n, fun | n => n⟩
theorem Tryz.lays105 : Go.Proofs.Lays.n105 Tryz.prog Tryz.lays105_ren := {
  mixed := by kernel_rfl
  f99 := Tryz.func17.trans (congrArg some (by kernel_rfl))
  f105 := Tryz.func46.trans (congrArg some (by kernel_rfl))
  f165 := Tryz.func66.trans (congrArg some (by kernel_rfl))
  f166 := Tryz.func67.trans (congrArg some (by kernel_rfl))
  f169 := Tryz.func69.trans (congrArg some (by kernel_rfl))
  f170 := Tryz.func68.trans (congrArg some (by kernel_rfl))
  f206 := Tryz.func32.trans (congrArg some (by kernel_rfl))
  f212 := Tryz.func65.trans (congrArg some (by kernel_rfl))
  f240 := Tryz.func88.trans (congrArg some (by kernel_rfl))
  f241 := Tryz.func89.trans (congrArg some (by kernel_rfl))
  f263 := Tryz.func86.trans (congrArg some (by kernel_rfl))
  f264 := Tryz.func87.trans (congrArg some (by kernel_rfl))
  f276 := Tryz.func102.trans (congrArg some (by kernel_rfl))
  f277 := Tryz.func103.trans (congrArg some (by kernel_rfl))
  t0 := Tryz.underlying0
  a0 := Tryz.isAgg0
  z0 := Tryz.sizeOf0
  v0 := Tryz.zeroValue0
  t3 := Tryz.underlying3
  a3 := Tryz.isAgg3
  z3 := Tryz.sizeOf3
  v3 := Tryz.zeroValue3
  t4 := Tryz.underlying4
  a4 := Tryz.isAgg4
  z4 := Tryz.sizeOf4
  v4 := Tryz.zeroValue4
  t5 := Tryz.underlying5
  a5 := Tryz.isAgg5
  z5 := Tryz.sizeOf5
  v5 := Tryz.zeroValue5
  t9 := Tryz.underlying9
  a9 := Tryz.isAgg9
  z9 := Tryz.sizeOf9
  v9 := Tryz.zeroValue9
  t20 := Tryz.underlying20
  a20 := Tryz.isAgg20
  z20 := Tryz.sizeOf20
  v20 := Tryz.zeroValue20
  t37 := Tryz.underlying61
  a37 := Tryz.isAgg61
  z37 := Tryz.sizeOf61
  v37 := Tryz.zeroValue61
  t46 := Tryz.underlying60
  a46 := Tryz.isAgg60
  z46 := Tryz.sizeOf60
  v46 := Tryz.zeroValue60
  t51 := Tryz.underlying33
  a51 := Tryz.isAgg33
  z51 := Tryz.sizeOf33
  v51 := Tryz.zeroValue33
  t53 := Tryz.underlying72
  a53 := Tryz.isAgg72
  z53 := Tryz.sizeOf72
  v53 := Tryz.zeroValue72
  t70 := Tryz.underlying89
  a70 := Tryz.isAgg89
  z70 := Tryz.sizeOf89
  v70 := Tryz.zeroValue89
  t72 := Tryz.underlying91
  a72 := Tryz.isAgg91
  z72 := Tryz.sizeOf91
  v72 := Tryz.zeroValue91
  t75 := Tryz.underlying27
  a75 := Tryz.isAgg27
  z75 := Tryz.sizeOf27
  v75 := Tryz.zeroValue27
  t76 := Tryz.underlying68
  a76 := Tryz.isAgg68
  z76 := Tryz.sizeOf68
  v76 := Tryz.zeroValue68
  t109 := Tryz.underlying87
  a109 := Tryz.isAgg87
  z109 := Tryz.sizeOf87
  v109 := Tryz.zeroValue87
  t127 := Tryz.underlying110
  a127 := Tryz.isAgg110
  z127 := Tryz.sizeOf110
  v127 := Tryz.zeroValue110
  t146 := Tryz.underlying106
  a146 := Tryz.isAgg106
  z146 := Tryz.sizeOf106
  v146 := Tryz.zeroValue106
  t148 := Tryz.underlying108
  a148 := Tryz.isAgg108
  z148 := Tryz.sizeOf108
  v148 := Tryz.zeroValue108
  t164 := Tryz.underlying124
  a164 := Tryz.isAgg124
  z164 := Tryz.sizeOf124
  v164 := Tryz.zeroValue124 }
theorem Tryz.Builder_Extra_105 : Builder.Extra Tryz.prog Tryz.lays105_ren := {
  sizeBuilder := by kernel_rfl
  liesBuilder := by kernel_rfl
  t5 := Tryz.underlying5
  a5 := Tryz.isAgg5
  z5 := Tryz.sizeOf5
  v5 := Tryz.zeroValue5
  infoByte := by kernel_rfl
  cellsByte := by kernel_rfl
  sizeByte := by kernel_rfl
  neB5 := by decide }
open Go.RowKit Go.Lib in
theorem Tryz.strings_Repeat (s : ByteArray) (c : Nat) (w : World) (hc : c ≤ 9223372036854775807) (hlen : s.size * c ≤ 140737488355328) :
    Calls Tryz.prog 46 #[.string s, .int .i64 c] w fun e w' => e = .returned (.string ⟨(Lib.repeatL s.data.toList c).toArray⟩) ∧ Below w.heap.size w w' := Any.strings_Repeat Tryz.lays105 Tryz.Builder_Extra_105 s c w hc hlen
end Go.Proofs
/- Figures and numbers: the program's, the document's (own copies, where the batches' texts are not there). -/
namespace Go.Proofs.YtoadimagpibfoaaGreatDoor.Fr
open Go.RowKit Go.Shelf
attribute [local go_sem] Oper.semAt_some
theorem var_below {P : Program} {w w' : World} {N : Nat} {name : String} {cs : Array Value} (h : w.var? P name = some cs) (hb : Below N w w') (hN : w.heap.size ≤ N) : w'.var? P name = some cs := by
  unfold World.var? at *
  cases hg : P.globalNamed name with
  | none => simp [hg] at h
  | some g =>
    simp only [hg, Option.bind_some] at h ⊢
    have hlt : g < w.heap.size := by
      rcases Nat.lt_or_ge g w.heap.size with h' | h'
      · exact h'
      · rw [Array.getElem?_eq_none h'] at h; simp at h
    rw [hb.block g (by omega)]
    exact h
/-- What the variables hold that the library reads: the powers of ten, the two errors of strconv. -/
structure TabsN (w : World) : Prop where
  pow : Lib.TabIs Tryz.prog w "internal/strconv.uint64pow10" .u64 Lib.pow10Tab
  syn : ∃ tp p, w.var? Tryz.prog "strconv.ErrSyntax" = some #[.iface tp p]
  ran : ∃ tp p, w.var? Tryz.prog "strconv.ErrRange" = some #[.iface tp p]
theorem TabsN.below {w w' : World} {N : Nat} (h : TabsN w) (hb : Below N w w') (hN : w.heap.size ≤ N) : TabsN w' := by
  obtain ⟨a, ⟨t1, p1, c⟩, ⟨t2, p2, d⟩⟩ := h
  exact ⟨var_below a hb hN, ⟨t1, p1, var_below c hb hN⟩, ⟨t2, p2, var_below d hb hN⟩⟩
theorem freeze_below {N : Nat} {w w' : World} (h : Below N w w') {p : Addr} (hp : N ≤ p.block) (k : Nat) : Below N w (w'.freeze p k) := by
  unfold World.freeze
  by_cases hk : k = 0
  · rw [if_pos hk]; exact h
  · rw [if_neg hk]
    refine ⟨h.os, h.tape, h.output, ?_, fun j hj => ?_⟩
    · simp; exact h.size
    · simp only [Array.getElem?_modify]
      rw [if_neg (by omega)]
      exact h.block j hj
theorem bytes_below (w : World) (e : TypeId) (s : ByteArray) : Below w.heap.size w (Lib.bytesWorld w e s) := by
  unfold Lib.bytesWorld
  exact freeze_below ((Below.refl _ w).drew.alloc (Nat.le_refl _) _) (Nat.le_refl _) _
theorem atoi_any (l : List UInt8) (hl : l.length ≤ 1000000) (w : World) (ht : TabsN w) :
    Calls Tryz.prog 45 #[.string (B l)] w fun e w' => (∃ T q, e = .returned (.tuple #[.int .i64 (atoiV l), .nilIface]) ∨ e = .returned (.tuple #[.int .i64 (atoiV l), .iface T q])) ∧ Below w.heap.size w w' := by
  cases h : Lib.atoiAll l with
  | ok v =>
    refine (Tryz.strconv_Atoi_ok (B l) (by rw [B_size]; omega) v (by rw [B_data]; exact h) w).mono ?_
    rintro e w' ⟨rfl, hw⟩
    refine ⟨⟨0, undef, .inl (by unfold atoiV; rw [h])⟩, ?_⟩
    rcases hw with rfl | ⟨t, rfl⟩
    · exact Below.refl _ _
    · exact bytes_below _ _ _
  | range =>
    obtain ⟨tp, p, hv⟩ := ht.ran
    refine (Tryz.strconv_Atoi_range_var (B l) (by rw [B_size]; omega) (by rw [B_data]; exact h) tp p w hv).mono ?_
    rintro e w' ⟨N, rfl, _, _, hb⟩
    exact ⟨⟨_, _, .inr (by unfold atoiV; rw [h, B_data])⟩, hb⟩
  | _ =>
    obtain ⟨tp, p, hv⟩ := ht.syn
    refine (Tryz.strconv_Atoi_syntax_var (B l) (by rw [B_size]; omega) (by rw [B_data]; exact h) tp p w hv).mono ?_
    rintro e w' ⟨N, rfl, _, _, hb⟩
    exact ⟨⟨_, _, .inr (by unfold atoiV; rw [h])⟩, hb⟩
set_option maxRecDepth 100000 in
set_option maxHeartbeats 4000000 in
theorem unsigned_any (u : Nat) (hu : u < 18446744073709551616) (w : World) : Calls Tryz.prog 48 #[.int .u64 u] w fun e w' => e = .returned (.string (B (Lib.decDigits u))) ∧ w' = w := by
  induction u using Nat.strongRecOn generalizing w with
  | _ u ih =>
    by_cases h : u < 10
    · rw [Lib.decDigits_one h]
      clear ih hu
      obtain rfl | rfl | rfl | rfl | rfl | rfl | rfl | rfl | rfl | rfl : u = 0 ∨ u = 1 ∨ u = 2 ∨ u = 3 ∨ u = 4 ∨ u = 5 ∨ u = 6 ∨ u = 7 ∨ u = 8 ∨ u = 9 := by omega
      all_goals
        go_enter Tryz.func48, Tryz.ntmps48
        go_wp2_with fail
        go_ret
        exact ⟨by kernel_rfl, rfl⟩
    · have q : ¬ (u : Int) < 10 := by omega
      have I1 := Lib.hid (ih (u / 10) (by omega) (by omega))
      have I2 := Lib.hid (ih (u % 10) (by omega) (by omega))
      rw [Int.natCast_ediv] at I1
      rw [Int.natCast_emod] at I2
      have E : Hid (B (Lib.decDigits (u / 10)) ++ B (Lib.decDigits (u % 10)) = B (Lib.decDigits u)) := by
        show _ = _
        rw [B_append, Lib.decDigits_one (i := u % 10) (by omega)]
        congr 1
        conv => rhs; rw [Lib.decDigits, dif_neg h]
      have S1 : (B (Lib.decDigits (u / 10))).size ≤ 30 := by
        rw [B_size, Lib.decDigits_length]
        have := Lib.nDigits_le20 (u / 10) (by omega)
        omega
      have S2 : (B (Lib.decDigits (u % 10))).size ≤ 30 := by rw [B_size, Lib.decDigits_one (by omega)]; exact (by decide : 1 ≤ 30)
      clear ih
      generalize B (Lib.decDigits (u / 10)) = x at *
      generalize B (Lib.decDigits (u % 10)) = y at *
      go_enter Tryz.func48, Tryz.ntmps48
      go_wp2_with fail
      refine (I1.out _).mono ?_
      rintro e w1 ⟨rfl, rfl⟩
      go_wp2_with fail
      refine (I2.out _).mono ?_
      rintro e w1 ⟨rfl, rfl⟩
      go_wp2_with fail
      go_ret
      exact ⟨by rw [← E.out]; rfl, rfl⟩
set_option maxRecDepth 100000 in
set_option maxHeartbeats 4000000 in
theorem figures_any (n : Int) (hn : I64 n) (w : World) : Calls Tryz.prog 31 #[.int .i64 n] w fun e w' => e = .returned (.string (B (Lib.itoa n))) ∧ w' = w := by
  obtain ⟨h0, h1⟩ := hn
  by_cases h : n < 0
  · obtain ⟨u, rfl⟩ : ∃ u : Nat, n = -((u : Int) + 1) := ⟨(-n - 1).toNat, by omega⟩
    have q : -((u : Int) + 1) < 0 := by omega
    have w1 : IntKind.i64.wrap (-((u : Int) + 1) + 1) = -(u : Int) := by rw [show -((u : Int) + 1) + 1 = -(u : Int) by omega]; exact IntWalk.i64_in _ (by omega)
    have w2 : IntKind.i64.wrap (u : Int) = (u : Int) := IntWalk.i64_in _ (by omega)
    have w3 : IntKind.u64.wrap (u : Int) = (u : Int) := by rw [IntKind.wrap_u64]; omega
    have w4 : IntKind.u64.wrap ((u : Int) + 1) = (u : Int) + 1 := by rw [IntKind.wrap_u64]; omega
    have I1 := Lib.hid (unsigned_any (u + 1) (by omega) w)
    rw [Int.natCast_add, show ((1 : Nat) : Int) = 1 from rfl] at I1
    have E : Hid ((⟨#[45]⟩ : ByteArray) ++ B (Lib.decDigits (u + 1)) = B (Lib.itoa (-((u : Int) + 1)))) := by
      show _ = _
      rw [show -((u : Int) + 1) = -((u + 1 : Nat) : Int) by omega, Lib.itoa_neg _ (by omega), show (⟨#[45]⟩ : ByteArray) = B [45] from rfl, B_append]; rfl
    have S1 : (B (Lib.decDigits (u + 1))).size ≤ 30 := by
      rw [B_size, Lib.decDigits_length]
      have := Lib.nDigits_le20 (u + 1) (by omega)
      omega
    generalize B (Lib.decDigits (u + 1)) = x at *
    go_enter Tryz.func31, Tryz.ntmps31
    go_wp2_with fail
    refine I1.out.mono ?_
    rintro e w1 ⟨rfl, rfl⟩
    go_wp2_with fail
    go_ret
    exact ⟨by rw [← E.out]; rfl, rfl⟩
  · obtain ⟨u, rfl⟩ : ∃ u : Nat, n = (u : Int) := ⟨n.toNat, by omega⟩
    have w3 : IntKind.u64.wrap (u : Int) = (u : Int) := by rw [IntKind.wrap_u64]; omega
    have I1 := Lib.hid (unsigned_any u (by omega) w)
    rw [Lib.itoa_nonneg]
    generalize B (Lib.decDigits u) = x at *
    go_enter Tryz.func31, Tryz.ntmps31
    go_wp2_with fail
    refine I1.out.mono ?_
    rintro e w1 ⟨rfl, rfl⟩
    go_wp2_with fail
    go_ret
    exact ⟨rfl, rfl⟩
/-- The number that shortest figures are; none: they aren't. -/
def numL (l : List UInt8) : Option Int := if -9223372036854775808 ≤ atoiV l ∧ atoiV l ≤ 9223372036854775807 ∧ Lib.itoa (atoiV l) = l then some (atoiV l) else none
theorem numL_some {l : List UInt8} {i : Int} : numL l = some i ↔ I64 i ∧ Lib.itoa i = l := by
  unfold numL
  constructor
  · intro h
    split at h
    · rename_i q
      injection h with h
      subst h
      exact ⟨⟨q.1, q.2.1⟩, q.2.2⟩
    · cases h
  · rintro ⟨h1, rfl⟩
    rw [atoiV_itoa h1, if_pos ⟨h1.1, h1.2, rfl⟩]
theorem numL_none {l : List UInt8} (h : ∀ i, I64 i → Lib.itoa i ≠ l) : numL l = none := by
  cases e : numL l with
  | none => rfl
  | some i => exact absurd (numL_some.1 e).2 (h i (numL_some.1 e).1)
def numEnd (l : List UInt8) : Ending := .returned (.tuple #[.int .i64 ((numL l).getD 0), .bool (numL l).isSome])
theorem numEnd_no {l : List UInt8} (h : ∀ i, I64 i → Lib.itoa i ≠ l) : numEnd l = .returned (.tuple #[.int .i64 0, .bool false]) := by unfold numEnd; rw [numL_none h]; rfl
theorem numEnd_yes {l : List UInt8} {i : Int} (h : I64 i) (e : Lib.itoa i = l) : numEnd l = .returned (.tuple #[.int .i64 i, .bool true]) := by unfold numEnd; rw [numL_some.2 ⟨h, e⟩]; rfl
theorem dec_pos (u : Nat) (h : u < 18446744073709551616) : 1 ≤ (Lib.decDigits u).length ∧ (Lib.decDigits u).length ≤ 20 := by
  refine ⟨?_, by rw [Lib.decDigits_length]; exact Lib.nDigits_le20 u h⟩
  rcases Nat.eq_zero_or_pos (Lib.decDigits u).length with q | q
  · exact absurd (List.length_eq_zero_iff.1 q) (dec_ne u)
  · exact q
theorem itoa_len {i : Int} (h : I64 i) : 1 ≤ (Lib.itoa i).length ∧ (Lib.itoa i).length ≤ 20 := by
  obtain ⟨h0, h1⟩ := h
  have hnd : ∀ u : Nat, u ≤ 9223372036854775808 → (Lib.decDigits u).length ≤ 19 := fun u hu => by
    rcases Nat.lt_or_ge 19 (Lib.decDigits u).length with q | q
    · exfalso
      rw [Lib.decDigits_length] at q
      have : ∀ n u : Nat, n < Lib.nDigits u → 10 ^ n ≤ u ∨ n = 0 := by
        intro n
        induction n with
        | zero => exact fun _ _ => .inr rfl
        | succ n ih =>
          intro u hq
          rw [Lib.nDigits] at hq
          split at hq
          · omega
          · rcases ih (u / 10) (by omega) with z | z
            · left; rw [Nat.pow_succ]; omega
            · subst z; left; omega
      rcases this 19 u q with z | z
      · have : (10 : Nat) ^ 19 = 10000000000000000000 := by decide
        omega
      · omega
    · exact q
  unfold Lib.itoa
  split
  · rw [List.length_cons]
    have := hnd i.natAbs (by omega)
    omega
  · exact ⟨(dec_pos _ (by omega)).1, (dec_pos _ (by omega)).2⟩
theorem wrapI (z : Int) : I64 (wrap64 z) := by unfold I64 wrap64; omega
/-- What shortest figures are made of: a sign, digits. -/
theorem itoa_parts {i : Int} (hi : I64 i) {l : List UInt8} (h : Lib.itoa i = l) (a : Nat) (ha : a = if l.head? = some 45 then 1 else 0) :
    ∃ u : Nat, u ≤ 9223372036854775808 ∧ l.drop a = Lib.decDigits u ∧ i = (if a = 1 then -(u : Int) else u) := by
  obtain ⟨h0, h1⟩ := hi
  subst h
  by_cases hn : i < 0
  · have e : Lib.itoa i = 45 :: Lib.decDigits i.natAbs := by unfold Lib.itoa; rw [if_pos hn]
    rw [e] at ha ⊢
    rw [if_pos (by rfl)] at ha
    subst ha
    exact ⟨i.natAbs, by omega, rfl, by simp; omega⟩
  · have e : Lib.itoa i = Lib.decDigits i.toNat := by unfold Lib.itoa; rw [if_neg hn]
    have hd : (Lib.decDigits i.toNat).head? ≠ some 45 := fun q => by
      have := dec_digits i.toNat 45 (List.mem_of_mem_head? q)
      simp at this
    rw [e] at ha ⊢
    rw [if_neg hd] at ha
    subst ha
    exact ⟨i.toNat, by omega, rfl, by simp; omega⟩
/-- One digit more. -/
theorem num_step {u : Nat} (hu : u ≤ 9223372036854775808) {ds : List UInt8} (hd : ds = Lib.decDigits u) {j : Nat} {x : UInt8} (hx : ds[j]? = some x) :
    wrap64 (wrap64 (10 * numOn 0 (ds.take j)) - ((x.toNat : Int) - 48)) = numOn 0 (ds.take (j + 1)) := by
  subst hd
  have e : (Lib.decDigits u).take (j + 1) = (Lib.decDigits u).take j ++ [x] := by rw [List.take_add_one, hx]; rfl
  obtain ⟨m', e', hm'⟩ := numOn_take u (j + 1)
  obtain ⟨m, e1, hm⟩ := numOn_take u j
  have hxd := dec_digits u x (List.mem_of_getElem? hx)
  rw [e, numOn_snoc, e1] at e' ⊢
  rw [IntWalk.wrap64_in (10 * -(m : Int)) (by omega), IntWalk.wrap64_in _ (by omega)]
end Go.Proofs.YtoadimagpibfoaaGreatDoor.Fr
/- The check sum in memory: the table, the feeding, Sum of parts. -/
namespace Go.Proofs.YtoadimagpibfoaaGreatDoor.Sm
open Go.RowKit
theorem take_snoc (s : ByteArray) (k : Nat) (h : k < s.size) : s.data.toList.take (k + 1) = s.data.toList.take k ++ [s[k]] := by
  rw [List.take_succ_eq_append_getElem (by simpa using h)]; rfl
theorem xorb (x c : Nat) (hx : x < 4294967296) (hc : c < 256) : bits .xor .u32 (x : Int) ((c : Int) * 16777216) = ((x ^^^ c * 16777216 : Nat) : Int) := by
  have h := M.m24 c hc
  have e : ((c : Int) * 16777216) = ((c * 16777216 : Nat) : Int) := by omega
  rw [e]
  exact u32_xor_nat _ _ hx h
theorem ret_int {k : IntKind} {a b : Int} (h : a = b) : Ending.returned (.int k a) = .returned (.int k b) := by rw [h]
theorem st_yes (z : Nat) (hz : z < 4294967296) (h : ((z : Int) / 2147483648 == 1) = true) : bits .xor .u32 ((z : Int) * 2 % 4294967296) 79764919 = ((M.st z : Nat) : Int) := by
  have h1 : (z : Int) / 2147483648 = 1 := by simpa using h
  have h2 : z / 2147483648 = 1 := by omega
  unfold M.st
  rw [if_pos h2]
  have e : ((z : Int) * 2 % 4294967296) = ((z * 2 % 4294967296 : Nat) : Int) := by omega
  rw [e]
  exact u32_xor_nat _ 79764919 (Nat.mod_lt _ (by decide)) (by decide)
theorem st_no (z : Nat) (h : ((z : Int) / 2147483648 == 1) = false) : ((z : Int) * 2 % 4294967296) = ((M.st z : Nat) : Int) := by
  have h1 : ¬ (z : Int) / 2147483648 = 1 := by simpa using h
  have h2 : ¬ z / 2147483648 = 1 := by omega
  unfold M.st
  rw [if_neg h2]
  omega
set_option maxHeartbeats 400000 in
theorem refAdd_any (a : Nat) (ha : a < 4294967296) (s : ByteArray) (w : World) (hs : s.size ≤ maxLen) :
    Calls Tryz.prog 29 #[.int .u32 a, .string s] w fun e w' => e = .returned (.int .u32 ((4294967295 - M.feed (4294967295 - a) s.data.toList : Nat) : Int)) ∧ w = w' := by
  unfold maxLen at hs
  go_enter Tryz.func29, Tryz.ntmps29
  go_wp2
  go_loop [5, 6] (fun x i => ∃ k : Nat, k ≤ s.size ∧ i = .int .i64 k ∧ x = .int .u32 (M.feed (4294967295 - a) (s.data.toList.take k) : Nat)) (fun _ i => s.size - (intOf i).toNat)
  case atStart => exact ⟨0, Nat.zero_le _, rfl, by simp [M.feed]; omega⟩
  case round =>
    obtain ⟨k, hk, rfl, rfl⟩ := hrel
    by_cases hlt : k < s.size
    · have hx := M.feed_lt (s.data.toList.take k) (4294967295 - a) (by omega)
      have hc := s[k].toNat_lt
      have HS : Hid (M.feed (4294967295 - a) (s.data.toList.take (k + 1)) = M.stn 8 (M.feed (4294967295 - a) (s.data.toList.take k) ^^^ s[k].toNat * 16777216)) := by
        rw [take_snoc s k hlt, M.feed_snoc]; rfl
      have hy : M.feed (4294967295 - a) (s.data.toList.take k) ^^^ s[k].toNat * 16777216 < 4294967296 := Nat.xor_lt_two_pow (n := 32) hx (M.m24 _ hc)
      have X := xorb _ _ hx hc
      go_wp2
      clear X
      generalize M.feed (4294967295 - a) (s.data.toList.take k) = x0 at *
      generalize hyy : x0 ^^^ s[k].toNat * 16777216 = y at *
      clear hyy
      go_loop [5, 7] (fun x i => ∃ j : Nat, j ≤ 8 ∧ i = .int .i64 j ∧ x = .int .u32 (M.stn j y : Nat)) (fun _ i => 8 - (intOf i).toNat)
      case atStart => exact ⟨0, by omega, rfl, rfl⟩
      case round =>
        obtain ⟨j, hj, rfl, rfl⟩ := hrel
        have hz := M.stn_lt j y hy
        have hst := M.stn_succ j y
        generalize hzz : M.stn j y = z at *
        have HZ := Lib.hid hzz
        clear hzz
        have HQ := Lib.hid hst
        clear hst
        go_wp2
        · have ht : ((z : Int) / 2147483648 == 1) = true := by assumption
          go_round
          case rel => exact ⟨j + 1, by omega, by go_num, by rw [HQ.out, st_yes z hz ht]⟩
          case measure => simp [intOf]; omega
        · have ht : ((z : Int) / 2147483648 == 1) = false := by assumption
          go_round
          case rel => exact ⟨j + 1, by omega, by go_num, by rw [HQ.out, st_no z ht]⟩
          case measure => simp [intOf]; omega
        · have : j = 8 := by omega
          go_round
          case rel => exact ⟨k + 1, by omega, by go_num, by rw [HS.out, ← HZ.out, this]⟩
          case measure => simp [intOf]; omega
    · go_wp2
      have : k = s.size := by omega
      subst this
      go_ret
      have hfl := M.feed_lt s.data.toList (4294967295 - a) (by omega)
      exact ⟨by rw [List.take_of_length_le (by simp)]; exact ret_int (by omega), rfl⟩
/-- the table's entries as far as they are made -/
def T (k j : Nat) : Nat := if j < k then M.stn 4 (j * 268435456) else 0
def tab (k : Nat) : Array Value := #[.int .u32 (T k 0 : Nat), .int .u32 (T k 1 : Nat), .int .u32 (T k 2 : Nat), .int .u32 (T k 3 : Nat), .int .u32 (T k 4 : Nat), .int .u32 (T k 5 : Nat), .int .u32 (T k 6 : Nat), .int .u32 (T k 7 : Nat), .int .u32 (T k 8 : Nat), .int .u32 (T k 9 : Nat), .int .u32 (T k 10 : Nat), .int .u32 (T k 11 : Nat), .int .u32 (T k 12 : Nat), .int .u32 (T k 13 : Nat), .int .u32 (T k 14 : Nat), .int .u32 (T k 15 : Nat)]
theorem tab_size (k : Nat) : (tab k).size = 16 := rfl
theorem tab_get (k j : Nat) (h : j < 16) : (tab k)[j]? = some (.int .u32 (T k j : Nat)) := by
  match j, h with
  | 0, _ | 1, _ | 2, _ | 3, _ | 4, _ | 5, _ | 6, _ | 7, _ | 8, _ | 9, _ | 10, _ | 11, _ | 12, _ | 13, _ | 14, _ | 15, _ => rfl
  | n + 16, h => omega
theorem tab_set (k : Nat) (h : k < 16) : (tab k).setIfInBounds k (.int .u32 (M.stn 4 (k * 268435456) : Nat)) = tab (k + 1) := by
  apply Array.ext_getElem?
  intro j
  rw [Array.getElem?_setIfInBounds]
  by_cases hj : j < 16
  · rw [tab_get _ _ hj, tab_get _ _ hj, tab_size]
    by_cases e : k = j
    · subst e; simp [h, T]
    · have : T (k + 1) j = T k j := by unfold T; by_cases a : j < k <;> simp [a] <;> omega
      rw [if_neg e, this]
  · have : k ≠ j := by omega
    rw [if_neg this, Array.getElem?_eq_none (by rw [tab_size]; omega), Array.getElem?_eq_none (by rw [tab_size]; omega)]
set_option maxHeartbeats 400000 in
theorem halves_any (w : World) :
    Calls Tryz.prog 40 #[] w fun e w' => e = .returned (.agg (tab 16)) ∧ Below w.heap.size w w' := by
  go_enter Tryz.func40, Tryz.ntmps40
  go_wp2
  go_loopw [3, 5] (fun r i wr => ∃ k : Nat, k ≤ 16 ∧ i = .int .i64 k ∧ wr = (w.alloc (.cells #[Value.int IntKind.u32 0, Value.int IntKind.u32 0, Value.int IntKind.u32 0, Value.int IntKind.u32 0, Value.int IntKind.u32 0, Value.int IntKind.u32 0, Value.int IntKind.u32 0, Value.int IntKind.u32 0, Value.int IntKind.u32 0, Value.int IntKind.u32 0, Value.int IntKind.u32 0, Value.int IntKind.u32 0, Value.int IntKind.u32 0, Value.int IntKind.u32 0, Value.int IntKind.u32 0, Value.int IntKind.u32 0] 63)).alloc (.cells (tab k) 63)) (fun _ i _ => 16 - (intOf i).toNat)
  case atStart => exact ⟨0, by omega, rfl, rfl⟩
  case round =>
    obtain ⟨k, hk, rfl, rfl⟩ := hrel
    by_cases hlt : k < 16
    · have hx : k * 268435456 < 4294967296 := by omega
      go_wp2
      go_loop [3, 11] (fun x i => ∃ j : Nat, j ≤ 4 ∧ i = .int .i64 j ∧ x = .int .u32 (M.stn j (k * 268435456) : Nat)) (fun _ i => 4 - (intOf i).toNat)
      case atStart => exact ⟨0, by omega, rfl, by simp [M.stn]⟩
      case round =>
        obtain ⟨j, hj, rfl, rfl⟩ := hrel
        have hz := M.stn_lt j _ hx
        have hst := M.stn_succ j (k * 268435456)
        have ht := tab_get k k hlt
        have hset := tab_set k hlt
        generalize hzz : M.stn j (k * 268435456) = z at *
        have HZ := Lib.hid hzz
        have HQ := Lib.hid hst
        have HS := Lib.hid hset
        clear hzz hst hset
        go_wp2
        · have ht : ((z : Int) / 2147483648 == 1) = true := by assumption
          go_round
          case rel => exact ⟨j + 1, by omega, by go_num, by rw [HQ.out, st_yes z hz ht]⟩
          case measure => simp [intOf]; omega
        · have ht : ((z : Int) / 2147483648 == 1) = false := by assumption
          go_round
          case rel => exact ⟨j + 1, by omega, by go_num, by rw [HQ.out, st_no z ht]⟩
          case measure => simp [intOf]; omega
        · have : j = 4 := by omega
          go_roundw
          case rel => exact ⟨k + 1, by omega, by go_num, by rw [← HS.out, ← HZ.out, this]⟩
          case measure => simp [intOf]; omega
    · have : k = 16 := by omega
      subst this
      simp only [tab]
      go_wp2
      exact bodyPost_ret (v := .agg (tab 16)) (by simp [results, Tryz.results40, go_sem, tab]) rfl ⟨rfl, by repeat (first | exact Below.refl _ _ | (refine Below.alloc ?_ (by simp) _) | (refine Below.setCell ?_ (by simp) _))⟩
theorem entry (y : Nat) (hy : y < 4294967296) : (tab 16)[y / 268435456]? = some (.int .u32 (M.stn 4 (y / 268435456 * 268435456) : Nat)) := by
  have h : y / 268435456 < 16 := by omega
  rw [tab_get 16 _ h]
  unfold T
  rw [if_pos h]
theorem half (y : Nat) (hy : y < 4294967296) : bits .xor .u32 ((y : Int) * 16 % 4294967296) (M.stn 4 (y / 268435456 * 268435456) : Nat) = ((M.stn 4 y : Nat) : Int) := by
  have h1 : y / 268435456 * 268435456 < 4294967296 := by omega
  have h2 := M.stn_lt 4 _ h1
  rw [M.four y hy]
  have e : ((y : Int) * 16 % 4294967296) = ((y * 16 % 4294967296 : Nat) : Int) := by omega
  rw [e]
  exact u32_xor_nat _ _ (Nat.mod_lt _ (by decide)) h2
set_option maxHeartbeats 400000 in
theorem feed_any (x : Nat) (hx : x < 4294967296) (s : ByteArray) (w : World) (hs : s.size ≤ maxLen) :
    Calls Tryz.prog 41 #[.int .u32 x, .agg (tab 16), .string s] w fun e w' => e = .returned (.int .u32 (M.feed x s.data.toList : Nat)) ∧ Below w.heap.size w w' := by
  unfold maxLen at hs
  go_enter Tryz.func41, Tryz.ntmps41
  go_wp2
  go_loop [0, 10] (fun r i => ∃ k : Nat, k ≤ s.size ∧ i = .int .i64 k ∧ r = .int .u32 (M.feed x (s.data.toList.take k) : Nat)) (fun _ i => s.size - (intOf i).toNat)
  case atStart => exact ⟨0, by omega, rfl, rfl⟩
  case round =>
    obtain ⟨k, hk, rfl, rfl⟩ := hrel
    by_cases hlt : k < s.size
    · have hx0 := M.feed_lt (s.data.toList.take k) x hx
      have hc := s[k].toNat_lt
      have HS : Hid (M.feed x (s.data.toList.take (k + 1)) = M.stn 4 (M.stn 4 (M.feed x (s.data.toList.take k) ^^^ s[k].toNat * 16777216))) := by
        rw [take_snoc s k hlt, M.feed_snoc]; rfl
      generalize M.feed x (s.data.toList.take k) = x0 at *
      have X := xorb _ _ hx0 hc
      have hy : x0 ^^^ s[k].toNat * 16777216 < 4294967296 := Nat.xor_lt_two_pow (n := 32) hx0 (M.m24 _ hc)
      generalize x0 ^^^ s[k].toNat * 16777216 = y at *
      have hz := M.stn_lt 4 y hy
      have c1 := entry y hy
      have x1 := half y hy
      generalize M.stn 4 y = z at *
      have c2 := entry z hz
      have x2 := half z hz
      go_wp2
      go_round
      case rel => exact ⟨k + 1, by omega, by go_num, by rw [HS.out]⟩
      case measure => simp [intOf]; omega
    · go_wp2
      have : k = s.size := by omega
      subst this
      go_ret
      exact ⟨by rw [List.take_of_length_le (by simp)]; rfl, (Below.refl _ _).alloc (Nat.le_refl _) _⟩
/-- a slice value that reads as these strings -/
def Strs (w : World) (v : Value) (ss : List ByteArray) : Prop :=
  ∃ A cap, v = .slice A ss.length cap ∧ (∀ i s, ss[i]? = some s → ∃ b off, A = some ⟨b, off, none⟩ ∧ b < w.heap.size ∧ w.cell? ⟨b, off + i, none⟩ = some (.string s))
theorem tab_info : (Tryz.prog.info? 63).map (·.size) = some (tab 16).size := by kernel_rfl
theorem tab_one : (tab 16).all (·.oneCell') = true := by kernel_rfl
theorem compl (x : Nat) (h : x < 4294967296) : bits .xor .u32 IntKind.u32.max (x : Int) = ((4294967295 - x : Nat) : Int) := by
  have e : IntKind.u32.max = ((4294967295 : Nat) : Int) := by decide
  rw [e, u32_xor_nat _ _ (by decide) h]
  congr 1
  apply Nat.eq_of_testBit_eq
  intro i
  have h1 : (4294967295 - x) = 2 ^ 32 - (x + 1) := by omega
  have h2 : (4294967295 : Nat) = 2 ^ 32 - 1 := by decide
  rw [h1, Nat.testBit_xor, Nat.testBit_two_pow_sub_succ h, h2, Nat.testBit_two_pow_sub_one]
  by_cases hi : i < 32
  · simp [hi]
  · have h3 : 2 ^ 32 ≤ 2 ^ i := Nat.pow_le_pow_right (by decide) (by omega)
    have : x.testBit i = false := Nat.testBit_lt_two_pow (Nat.lt_of_lt_of_le h h3)
    simp [hi, this]
def Row39 (w : World) (B : Nat) : Prop := w.heap[B]? = some (.cells (tab 16) 63 (0, 0))
set_option maxHeartbeats 400000 in
theorem sum_any (v : Value) (ss : List ByteArray) (w : World) (hv : Strs w v ss) (hl : ss.length ≤ maxLen) (hs : ∀ (i : Nat) (s : ByteArray), ss[i]? = some s → s.size ≤ maxLen) :
    Calls Tryz.prog 22 #[v] w fun e w' => e = .returned (.int .u32 (4294967295 - M.feed 4294967295 (cat ss) : Nat)) ∧ Below w.heap.size w w' := by
  obtain ⟨A, cap, rfl, hc⟩ := hv
  unfold maxLen at hl
  go_enter Tryz.func22, Tryz.ntmps22
  go_wp2_with (go_at_call 40; refine (halves_any _).mono ?_; rintro e w1 ⟨rfl, hb1⟩; have hst := run_storeCells_new (P := Tryz.prog) w1 63 #[Value.int IntKind.u32 0, Value.int IntKind.u32 0, Value.int IntKind.u32 0, Value.int IntKind.u32 0, Value.int IntKind.u32 0, Value.int IntKind.u32 0, Value.int IntKind.u32 0, Value.int IntKind.u32 0, Value.int IntKind.u32 0, Value.int IntKind.u32 0, Value.int IntKind.u32 0, Value.int IntKind.u32 0, Value.int IntKind.u32 0, Value.int IntKind.u32 0, Value.int IntKind.u32 0, Value.int IntKind.u32 0] (tab 16) tab_info (by rfl) tab_one; have hsz := tab_size 16)
  clear hst hsz
  have hrow : Row39 (w1.alloc (.cells (tab 16) 63)) w1.heap.size := heap_alloc_last _ _
  have hbw : Below w.heap.size w (w1.alloc (.cells (tab 16) 63)) := hb1.alloc hb1.size _
  have hlt : w.heap.size ≤ w1.heap.size := hb1.size
  have hlt' : w1.heap.size < (w1.alloc (.cells (tab 16) 63)).heap.size := by simp
  generalize (w1.alloc (.cells (tab 16) 63)) = w2 at *
  generalize w1.heap.size = L at *
  clear hb1
  go_loopw [4, 10] (fun r i wr => ∃ k : Nat, k ≤ ss.length ∧ i = .int .i64 k ∧ r = .int .u32 (M.feed 4294967295 (cat (ss.take k)) : Nat) ∧ Below w.heap.size w wr ∧ Row39 wr L ∧ L < wr.heap.size) (fun _ i _ => ss.length - (intOf i).toNat)
  case atStart => exact ⟨0, by omega, rfl, rfl, hbw, hrow, hlt'⟩
  case round =>
    obtain ⟨k, hk, rfl, rfl, hb, hr, hL⟩ := hrel
    by_cases hlt : k < ss.length
    · obtain ⟨s, hsk⟩ : ∃ s, ss[k]? = some s := ⟨_, List.getElem?_eq_getElem hlt⟩
      obtain ⟨b, off, rfl, hbb, hcell⟩ := hc k s hsk
      have hcw : wr.cell? ⟨b, off + k, none⟩ = some (.string s) := (hb.cell (p := ⟨b, off + k, none⟩) hbb).trans hcell
      have hx := M.feed_lt (cat (ss.take k)) 4294967295 (by decide)
      have HS : Hid (M.feed 4294967295 (cat (ss.take (k + 1))) = M.feed (M.feed 4294967295 (cat (ss.take k))) s.data.toList) := by
        rw [cat_snoc ss k s hsk, M.feed_append]; rfl
      have hsz := hs k s hsk
      generalize M.feed 4294967295 (cat (ss.take k)) = x0 at *
      clear hc hcell hbw hrow hlt' hs hsk
      go_wp2_with (first | (refine wpList_load_row rfl 63 _ rfl L rfl 63 (tab 16) (0, 0) _ hr Tryz.underlying63 rfl tab_info ?_) | (go_at_call 41; refine (feed_any _ hx _ _ hsz).mono ?_; rintro e w3 ⟨rfl, hb3⟩))
      go_roundw
      case rel => exact ⟨k + 1, by omega, by go_num, by rw [HS.out], hb.trans (hb3.mono hb.size), (hb3.block _ hL).trans hr, Nat.lt_of_lt_of_le hL hb3.size⟩
      case measure => simp [intOf]; omega
    · have : k = ss.length := by omega
      subst this
      have hfl := M.feed_lt (cat ss) 4294967295 (by decide)
      rw [List.take_length]
      go_wp2
      go_ret
      exact ⟨ret_int (compl _ hfl), hb⟩
end Go.Proofs.YtoadimagpibfoaaGreatDoor.Sm
/- A sum's figures, and the document's. -/
namespace Go.Proofs.YtoadimagpibfoaaGreatDoor.Sm
open Go.RowKit
theorem refSum_any (s : ByteArray) (w : World) (hs : s.size ≤ maxLen) :
    Calls Tryz.prog 12 #[.string s] w fun e w' => e = .returned (.int .u32 (M.crc s.data.toList : Nat)) ∧ w = w' := by
  go_enter Tryz.func12, Tryz.ntmps12
  go_wp2_with (go_at_call 29; refine (refAdd_any 0 (by omega) _ _ hs).mono ?_; rintro e w1 ⟨rfl, rfl⟩)
  go_ret
  exact ⟨rfl, rfl⟩
def F (x k j : Nat) : Nat := if j < k then (dg (x / 16 ^ (7 - j) % 16)).toNat else 0
def ftab (x k : Nat) : Array Value := #[.int .u8 (F x k 0 : Nat), .int .u8 (F x k 1 : Nat), .int .u8 (F x k 2 : Nat), .int .u8 (F x k 3 : Nat), .int .u8 (F x k 4 : Nat), .int .u8 (F x k 5 : Nat), .int .u8 (F x k 6 : Nat), .int .u8 (F x k 7 : Nat)]
theorem ftab_get (x k j : Nat) (h : j < 8) : (ftab x k)[j]? = some (.int .u8 (F x k j : Nat)) := by
  match j, h with
  | 0, _ | 1, _ | 2, _ | 3, _ | 4, _ | 5, _ | 6, _ | 7, _ => rfl
  | n + 8, h => omega
theorem ftab_size (x k : Nat) : (ftab x k).size = 8 := rfl
theorem ftab_set (x k : Nat) (h : k < 8) : (ftab x k).setIfInBounds k (.int .u8 ((dg (x / 16 ^ (7 - k) % 16)).toNat : Nat)) = ftab x (k + 1) := by
  apply Array.ext_getElem?
  intro j
  rw [Array.getElem?_setIfInBounds]
  by_cases hj : j < 8
  · rw [ftab_get _ _ _ hj, ftab_get _ _ _ hj, ftab_size]
    by_cases e : k = j
    · subst e; simp [h, F]
    · have : F x (k + 1) j = F x k j := by unfold F; by_cases a : j < k <;> simp [a] <;> omega
      rw [if_neg e, this]
  · have : k ≠ j := by omega
    rw [if_neg this, Array.getElem?_eq_none (by rw [ftab_size]; omega), Array.getElem?_eq_none (by rw [ftab_size]; omega)]
theorem digit_get (d : Nat) (h : d < 16) (h' : d < (⟨#[48, 49, 50, 51, 52, 53, 54, 55, 56, 57, 97, 98, 99, 100, 101, 102]⟩ : ByteArray).size) :
    (⟨#[48, 49, 50, 51, 52, 53, 54, 55, 56, 57, 97, 98, 99, 100, 101, 102]⟩ : ByteArray)[d] = dg d := by
  match d, h with
  | 0, _ | 1, _ | 2, _ | 3, _ | 4, _ | 5, _ | 6, _ | 7, _ | 8, _ | 9, _ | 10, _ | 11, _ | 12, _ | 13, _ | 14, _ | 15, _ => rfl
  | n + 16, h => omega
theorem nib (x k : Nat) (hx : x < 4294967296) (h : k < 8) : x * 16 ^ k % 4294967296 / 268435456 = x / 16 ^ (7 - k) % 16 := by
  match k, h with
  | 0, _ | 1, _ | 2, _ | 3, _ | 4, _ | 5, _ | 6, _ | 7, _ => simp only [Nat.reduceSub, Nat.reducePow]; omega
  | n + 8, h => omega
theorem shl4 (x k : Nat) : ((x * 16 ^ k % 4294967296 : Nat) : Int) * 16 % 4294967296 = ((x * 16 ^ (k + 1) % 4294967296 : Nat) : Int) := by
  rw [Nat.pow_succ, ← Nat.mul_assoc]
  omega
def fnums (x : Nat) : List Int := [(F x 8 0 : Nat), (F x 8 1 : Nat), (F x 8 2 : Nat), (F x 8 3 : Nat), (F x 8 4 : Nat), (F x 8 5 : Nat), (F x 8 6 : Nat), (F x 8 7 : Nat)]
theorem fnums_get (x i : Nat) (h : i < 8) : (fnums x).getD i 0 = (F x 8 i : Nat) := by
  match i, h with
  | 0, _ | 1, _ | 2, _ | 3, _ | 4, _ | 5, _ | 6, _ | 7, _ => rfl
  | n + 8, h => omega
theorem fnums_str (x : Nat) : strOfNums (fnums x) = figs x := by
  simp [strOfNums, fnums, figs, F]
set_option maxRecDepth 100000 in
set_option maxHeartbeats 1000000 in
theorem figures_any (x : Nat) (hx : x < 4294967296) (w : World) :
    Calls Tryz.prog 21 #[.int .u32 x] w fun e w' => e = .returned (.string (figs x)) ∧ Below w.heap.size w w' := by
  go_enter Tryz.func21, Tryz.ntmps21
  go_wp2
  go_loopw [0, 5] (fun r i wr => ∃ k : Nat, k ≤ 8 ∧ i = .int .i64 k ∧ r = .int .u32 (x * 16 ^ k % 4294967296 : Nat) ∧ wr = w.alloc (.cells (ftab x k) 59)) (fun _ i _ => 8 - (intOf i).toNat)
  case atStart => exact ⟨0, by omega, rfl, by simp; omega, rfl⟩
  case round =>
    obtain ⟨k, hk, rfl, rfl, rfl⟩ := hrel
    by_cases hlt : k < 8
    · have hy : x * 16 ^ k % 4294967296 < 4294967296 := Nat.mod_lt _ (by decide)
      have hn := nib x k hx hlt
      have hs := shl4 x k
      generalize x * 16 ^ k % 4294967296 = y at *
      have HN := Lib.hid hn
      have HS := Lib.hid hs
      clear hn hs
      have ht : (ftab x k)[k]? = some (.int .u8 (F x k k : Nat)) := ftab_get x k k hlt
      go_wp2
      go_round
      case rel =>
        refine ⟨k + 1, by omega, by go_num, by rw [HS.out], ?_⟩
        rw [digit_get _ (by omega), HN.out, ftab_set x k hlt]
      case measure => simp [intOf]; omega
    · have : k = 8 := by omega
      subst this
      have hcv := run_convert_bytes_arg (P := Tryz.prog) (w.alloc (.cells (ftab x 8) 59)) 61 5 Tryz.underlying61 Tryz.underlying5 w.heap.size 0 8 8 (fnums x) rfl (fun i hi => by
        rw [World.cell?_alloc_at _ _ _ _ rfl, Nat.zero_add, ftab_get x 8 i hi, fnums_get x i hi]) 9 Tryz.underlying9
      rw [fnums_str] at hcv
      go_wp2
      go_ret
      exact ⟨rfl, (Below.refl _ _).alloc (Nat.le_refl _) _⟩

theorem run_dig (y : Nat) (w : World) : (Instr.slice 9 (.string ⟨#[48, 49, 50, 51, 52, 53, 54, 55, 56, 57, 97, 98, 99, 100, 101, 102]⟩) (some (.int .u32 ((y : Int) % 16))) (some (.int .u32 ((y : Int) % 16 + 1))) none).run Tryz.prog w = .ok (.string ⟨#[dg (y % 16)]⟩) w := by
  have hd : y % 16 < 16 := Nat.mod_lt _ (by decide)
  have e : (y : Int) % 16 = ((y % 16 : Nat) : Int) := by omega
  rw [e]
  generalize y % 16 = d at *
  rw [run_slice_string _ _ _ _ _ _ _ Tryz.underlying9 (by omega) (by omega) (by show (d : Int) + 1 ≤ (16 : Nat); omega)]
  match d, hd with
  | 0, _ | 1, _ | 2, _ | 3, _ | 4, _ | 5, _ | 6, _ | 7, _ | 8, _ | 9, _ | 10, _ | 11, _ | 12, _ | 13, _ | 14, _ | 15, _ => rfl
  | n + 16, h => omega
theorem joined (c : UInt8) (l : List UInt8) : (⟨#[c]⟩ ++ ⟨l.toArray⟩ : ByteArray) = ⟨(c :: l).toArray⟩ := by
  apply ByteArray.ext
  simp
theorem div16 (x k : Nat) : ((x / 16 ^ k : Nat) : Int) / 16 = ((x / 16 ^ (k + 1) : Nat) : Int) := by
  rw [Nat.pow_succ, ← Nat.div_div_eq_div_mul]
  omega
set_option maxRecDepth 100000 in
set_option maxHeartbeats 1000000 in
theorem refFigures_any (x : Nat) (hx : x < 4294967296) (w : World) :
    Calls Tryz.prog 11 #[.int .u32 x] w fun e w' => e = .returned (.string (figs x)) ∧ w = w' := by
  go_enter Tryz.func11, Tryz.ntmps11
  go_wp2
  go_loop [0, 3, 4] (fun r s i => ∃ k : Nat, k ≤ 8 ∧ i = .int .i64 k ∧ r = .int .u32 (x / 16 ^ k : Nat) ∧ s = .string ⟨((figs x).data.toList.drop (8 - k)).toArray⟩) (fun _ _ i => 8 - (intOf i).toNat)
  case atStart => exact ⟨0, by omega, rfl, by simp, rfl⟩
  case round =>
    obtain ⟨k, hk, rfl, rfl, rfl⟩ := hrel
    by_cases hlt : k < 8
    · have hy : x / 16 ^ k < 4294967296 := Nat.lt_of_le_of_lt (Nat.div_le_self _ _) hx
      have HS := Lib.hid (figs_step x k hlt)
      have HD := Lib.hid (div16 x k)
      generalize x / 16 ^ k = y at *
      have hsl := run_dig y w
      have hfs : (figs x).size ≤ 8 := Nat.le_refl 8
      go_wp2
      go_round
      case rel => exact ⟨k + 1, by omega, by go_num, by rw [HD.out], by rw [HS.out, joined]⟩
      case measure => simp [intOf]; omega
    · have : k = 8 := by omega
      subst this
      go_wp2
      go_ret
      exact ⟨rfl, rfl⟩
end Go.Proofs.YtoadimagpibfoaaGreatDoor.Sm
/- Take: the sum of figures. -/
namespace Go.Proofs.YtoadimagpibfoaaGreatDoor.Sm
open Go.RowKit
theorem idx_fin : ∀ c : Fin 256, Lib.indexByte DIG (UInt8.ofNat c.val) = ix c.val := by decide +kernel
theorem idx (c : UInt8) : Lib.indexByte DIG c = ix c.toNat := by
  have := idx_fin ⟨c.toNat, c.toNat_lt⟩
  simpa using this
def takeV (l : List UInt8) : Value := match takes l with
  | some n => .tuple #[.int .u32 (n : Nat), .bool true]
  | none => .tuple #[.int .u32 0, .bool false]
theorem takeV_len {l : List UInt8} (h : l.length ≠ 8) : takeV l = .tuple #[.int .u32 0, .bool false] := by
  unfold takeV takes; rw [if_neg h]
theorem takeV_some {l : List UInt8} {n : Nat} (hl : l.length = 8) (h : tk 0 l = some n) : takeV l = .tuple #[.int .u32 (n : Nat), .bool true] := by
  unfold takeV takes; rw [if_pos hl, h]
theorem takeV_none {l : List UInt8} (hl : l.length = 8) (h : tk 0 l = none) : takeV l = .tuple #[.int .u32 0, .bool false] := by
  unfold takeV takes; rw [if_pos hl, h]
theorem or4 (x d : Nat) (hx : x < 4294967296) (hd : d < 16) : bits .or .u32 ((x : Int) * 16 % 4294967296) (d : Int) = ((x * 16 % 4294967296 + d : Nat) : Int) := by
  have e : ((x : Int) * 16 % 4294967296) = ((x * 16 % 4294967296 : Nat) : Int) := by omega
  rw [e, u32_or_nat _ _ (Nat.mod_lt _ (by decide)) (by omega), nat_join 4 _ _ (by omega) (by omega)]
theorem index_any (c : UInt8) (w : World) :
    Calls Tryz.prog 62 #[.string ⟨#[48, 49, 50, 51, 52, 53, 54, 55, 56, 57, 97, 98, 99, 100, 101, 102]⟩, .int .u8 (c.toNat : Int)] w fun e w' => e = .returned (.int .i64 (ix c.toNat)) ∧ w = w' :=
  (Tryz.strings_IndexByte _ _ w).mono fun _ _ ⟨he, hw⟩ => ⟨by rw [he]; exact ret_int (by rw [← idx c]; simp [DIG]), hw.symm⟩
theorem index_none (c : UInt8) (h : val c.toNat = none) (w : World) :
    Calls Tryz.prog 62 #[.string ⟨#[48, 49, 50, 51, 52, 53, 54, 55, 56, 57, 97, 98, 99, 100, 101, 102]⟩, .int .u8 (c.toNat : Int)] w fun e w' => e = .returned (.int .i64 (-1)) ∧ w = w' :=
  (index_any c w).mono fun _ _ ⟨he, hw⟩ => ⟨by rw [he, ix, h], hw⟩
theorem index_some (c : UInt8) (d : Nat) (h : val c.toNat = some d) (w : World) :
    Calls Tryz.prog 62 #[.string ⟨#[48, 49, 50, 51, 52, 53, 54, 55, 56, 57, 97, 98, 99, 100, 101, 102]⟩, .int .u8 (c.toNat : Int)] w fun e w' => e = .returned (.int .i64 (d : Int)) ∧ w = w' :=
  (index_any c w).mono fun _ _ ⟨he, hw⟩ => ⟨by rw [he, ix, h], hw⟩
set_option maxRecDepth 100000 in
set_option maxHeartbeats 1000000 in
theorem take_any (s : ByteArray) (w : World) (hs : s.size ≤ maxLen) :
    Calls Tryz.prog 44 #[.string s] w fun e w' => e = .returned (takeV s.data.toList) ∧ w = w' := by
  unfold maxLen at hs
  by_cases h8 : s.size = 8
  · have hb : (!((s.size : Int) == 8)) = false := by simp [h8]
    have hb2 : ((s.size : Int) != 8) = false := by simp [h8]
    have H8 := Lib.hid h8
    have hle : s.size ≤ 8 := by omega
    clear h8
    go_enter Tryz.func44, Tryz.ntmps44
    go_wp2_with fail
    go_loop [4, 12] (fun r i => ∃ k x : Nat, k ≤ s.size ∧ x < 4294967296 ∧ i = .int .i64 k ∧ r = .int .u32 (x : Nat) ∧ tk 0 s.data.toList = tk x (s.data.toList.drop k)) (fun _ i => s.size - (intOf i).toNat)
    case atStart => exact ⟨0, 0, by omega, by omega, rfl, rfl, rfl⟩
    case round =>
      obtain ⟨k, x, hk, hx, rfl, rfl, htk⟩ := hrel
      have HT := Lib.hid htk
      clear htk
      by_cases hlt : k < s.size
      · have hsplit : s.data.toList.drop k = s[k] :: s.data.toList.drop (k + 1) := by
          rw [List.drop_eq_getElem_cons (by simpa using hlt)]; rfl
        cases hv : val s[k].toNat with
        | none =>
          have HN : Hid (tk 0 s.data.toList = none) := by
            show _ = _
            rw [HT.out, hsplit, tk, hv]
          clear hsplit
          go_wp2_with fail
          refine (index_none _ hv _).mono ?_
          clear hv
          rintro e w1 ⟨rfl, rfl⟩
          go_wp2_with fail
          go_ret2
          exact ⟨by rw [takeV_none (by simpa using H8.out) HN.out]; rfl, rfl⟩
        | some d =>
          have hd := val_lt hv
          have HN : Hid (tk 0 s.data.toList = tk (x * 16 % 4294967296 + d) (s.data.toList.drop (k + 1))) := by
            show _ = _
            rw [HT.out, hsplit, tk, hv]
          clear hsplit
          have ho := or4 x d hx hd
          go_wp2_with fail
          refine (index_some _ _ hv _).mono ?_
          clear hv
          rintro e w1 ⟨rfl, rfl⟩
          go_wp2_with fail
          go_round
          case rel => exact ⟨k + 1, x * 16 % 4294967296 + d, by omega, by omega, by go_num, rfl, HN.out⟩
          case measure => simp [intOf]; omega
      · have HN : Hid (tk 0 s.data.toList = some x) := by
          show _ = _
          rw [HT.out, List.drop_of_length_le (by simp; omega)]; rfl
        go_wp2
        go_ret2
        exact ⟨by rw [takeV_some (by simpa using H8.out) HN.out]; rfl, rfl⟩
  · have hb : (!((s.size : Int) == 8)) = true := by simp; omega
    have hb2 : ((s.size : Int) != 8) = true := by simp; omega
    go_enter Tryz.func44, Tryz.ntmps44
    go_wp2_with fail
    go_ret2
    exact ⟨by rw [takeV_len (by simpa using h8)]; rfl, rfl⟩

theorem takeV_of {l : List UInt8} {n : Nat} (h : takes l = some n) : takeV l = .tuple #[.int .u32 (n : Nat), .bool true] := by unfold takeV; rw [h]
theorem takeV_not {l : List UInt8} (h : takes l = none) : takeV l = .tuple #[.int .u32 0, .bool false] := by unfold takeV; rw [h]
theorem take_yes (s : ByteArray) (n : Nat) (h : takes s.data.toList = some n) (w : World) (hs : s.size ≤ maxLen) :
    Calls Tryz.prog 44 #[.string s] w fun e w' => e = .returned (.tuple #[.int .u32 (n : Nat), .bool true]) ∧ w = w' :=
  (take_any s w hs).mono fun _ _ ⟨he, hw⟩ => ⟨by rw [he, takeV_of h], hw⟩
theorem take_no (s : ByteArray) (h : takes s.data.toList = none) (w : World) (hs : s.size ≤ maxLen) :
    Calls Tryz.prog 44 #[.string s] w fun e w' => e = .returned (.tuple #[.int .u32 0, .bool false]) ∧ w = w' :=
  (take_any s w hs).mono fun _ _ ⟨he, hw⟩ => ⟨by rw [he, takeV_not h], hw⟩
end Go.Proofs.YtoadimagpibfoaaGreatDoor.Sm
/- The program's fits, head, foot, partIf. -/
namespace Go.Proofs.YtoadimagpibfoaaGreatDoor.Fr
open Go.RowKit Go.Shelf
attribute [local go_sem] Oper.semAt_some

theorem mkB (l : List UInt8) : (⟨l.toArray⟩ : ByteArray) = B l := rfl
set_option maxRecDepth 100000 in
theorem fits_any (n : Int) (w : World) : Calls Tryz.prog 13 #[.int .i64 n] w fun e w' => e = .returned (.bool (decide (2 ≤ n ∧ n ≤ 50000))) ∧ w' = w := by
  by_cases h1 : 2 ≤ n
  · by_cases h2 : n ≤ 50000
    · have e : decide (2 ≤ n ∧ n ≤ 50000) = true := by simp [h1, h2]
      rw [e]
      go_enter Tryz.func13, Tryz.ntmps13
      go_wp2_with fail
      go_ret
      exact ⟨rfl, rfl⟩
    · have e : decide (2 ≤ n ∧ n ≤ 50000) = false := by simp [h2]
      rw [e]
      go_enter Tryz.func13, Tryz.ntmps13
      go_wp2_with fail
      go_ret
      exact ⟨rfl, rfl⟩
  · have e : decide (2 ≤ n ∧ n ≤ 50000) = false := by simp [h1]
    rw [e]
    go_enter Tryz.func13, Tryz.ntmps13
    go_wp2_with fail
    go_ret
    exact ⟨rfl, rfl⟩
theorem partIf_yes (w : World) : Calls Tryz.prog 24 #[.bool true] w fun e w' => e = .returned (.tuple #[.int .i64 2, .string (B []), .int .i64 0]) ∧ w' = w := by
  go_enter Tryz.func24, Tryz.ntmps24
  go_wp2_with fail
  go_ret3
  exact ⟨rfl, rfl⟩
theorem partIf_no (w : World) : Calls Tryz.prog 24 #[.bool false] w fun e w' => e = .returned (.tuple #[.int .i64 3, .string (B []), .int .i64 0]) ∧ w' = w := by
  go_enter Tryz.func24, Tryz.ntmps24
  go_wp2_with fail
  go_ret3
  exact ⟨rfl, rfl⟩
theorem grow_below {w : World} (n : Nat) (os : Array Obj) : Below w.heap.size w (Go.Sort.grow (w.drewN n) os) :=
  ⟨rfl, rfl, rfl, by rw [Go.Sort.size_grow]; exact Nat.le_add_right _ _, fun k hk => Go.Sort.heap_grow_old _ _ hk⟩
theorem itoa_any (n : Nat) (hn : n ≤ 9223372036854775807) (w : World) (ht : TabsN w) : Calls Tryz.prog 30 #[.int .i64 (n : Int)] w fun e w' => e = .returned (.string (B (Lib.decDigits n))) ∧ Below w.heap.size w w' :=
  (Tryz.strconv_Itoa n (by omega) (by omega) w ht.pow).mono fun e w' ⟨he, k, os, hw⟩ => ⟨by rw [he, Lib.itoa_nonneg]; rfl, by rw [hw]; exact grow_below k os⟩
theorem dec_size (n : Nat) (hn : n ≤ 9223372036854775807) : (B (Lib.decDigits n)).size ≤ 20 := by
  rw [B_size, Lib.decDigits_length]
  exact Lib.nDigits_le20 n (by omega)
set_option maxRecDepth 100000 in
theorem head_any (n : Nat) (hn : n ≤ 9223372036854775807) (f : List UInt8) (hf : f.length ≤ 1000000) (w : World) (ht : TabsN w) :
    Calls Tryz.prog 14 #[.int .i64 (n : Int), .string (B f)] w fun e w' => e = .returned (.string (B (headR n f))) ∧ Below w.heap.size w w' := by
  have IT := Lib.hid (itoa_any n hn w ht)
  have E : Hid ((⟨#[37, 97, 109, 101, 110, 100, 32]⟩ : ByteArray) ++ B (Lib.decDigits n) ++ ⟨#[32]⟩ ++ B f = B (headR n f)) := by
    show _ = _
    rw [show (⟨#[37, 97, 109, 101, 110, 100, 32]⟩ : ByteArray) = B AMD from rfl, show (⟨#[32]⟩ : ByteArray) = B [32] from rfl, B_append, B_append, B_append]
    unfold headR; simp
  have hs := dec_size n hn
  have hfs : (B f).size ≤ 1000000 := by rw [B_size]; exact hf
  generalize B (Lib.decDigits n) = d at *
  generalize B f = g at *
  have s1 : ((⟨#[37, 97, 109, 101, 110, 100, 32]⟩ : ByteArray) ++ d).size ≤ 27 := by rw [ByteArray.size_append]; show 7 + _ ≤ _; omega
  have s2 : ((⟨#[37, 97, 109, 101, 110, 100, 32]⟩ : ByteArray) ++ d ++ ⟨#[32]⟩).size ≤ 28 := by rw [ByteArray.size_append]; show _ + 1 ≤ _; omega
  clear ht
  go_enter Tryz.func14, Tryz.ntmps14
  go_wp2_with fail
  refine IT.out.mono ?_
  rintro e w1 ⟨rfl, hb⟩
  go_wp2_with fail
  go_ret
  exact ⟨by rw [← E.out]; rfl, hb⟩
set_option maxRecDepth 100000 in
theorem foot_any (n : Nat) (hn : n ≤ 9223372036854775807) (w : World) (ht : TabsN w) :
    Calls Tryz.prog 15 #[.int .i64 (n : Int)] w fun e w' => e = .returned (.string (B (footR n))) ∧ Below w.heap.size w w' := by
  have IT := Lib.hid (itoa_any n hn w ht)
  have E : Hid ((⟨#[37, 101, 110, 100, 32]⟩ : ByteArray) ++ B (Lib.decDigits n) ++ ⟨#[10]⟩ = B (footR n)) := by
    show _ = _
    rw [show (⟨#[37, 101, 110, 100, 32]⟩ : ByteArray) = B END from rfl, show (⟨#[10]⟩ : ByteArray) = B [10] from rfl, B_append, B_append]
    unfold footR; simp
  have hs := dec_size n hn
  generalize B (Lib.decDigits n) = d at *
  have s1 : ((⟨#[37, 101, 110, 100, 32]⟩ : ByteArray) ++ d).size ≤ 25 := by rw [ByteArray.size_append]; show 5 + _ ≤ _; omega
  clear ht
  go_enter Tryz.func15, Tryz.ntmps15
  go_wp2_with fail
  refine IT.out.mono ?_
  rintro e w1 ⟨rfl, hb⟩
  go_wp2_with fail
  go_ret
  exact ⟨by rw [← E.out]; rfl, hb⟩
end Go.Proofs.YtoadimagpibfoaaGreatDoor.Fr
/- strings.Cut at one byte; end; beginsBlank. -/
namespace Go.Proofs.YtoadimagpibfoaaGreatDoor
open Go.RowKit

theorem indexByte_cases (l : List UInt8) (c : UInt8) : (Lib.indexByte l c = -1 ∧ c ∉ l) ∨ (Lib.indexByte l c = ((l.takeWhile (· != c)).length : Int) ∧ c ∈ l) := by
  induction l with
  | nil => left; exact ⟨rfl, by simp⟩
  | cons a t ih =>
    unfold Lib.indexByte
    by_cases h : a = c
    · subst h; right; simp
    · have hb : (a == c) = false := by simp [h]
      rcases ih with ⟨h1, h2⟩ | ⟨h1, h2⟩
      · left; rw [h1]; simp [h, h2, Ne.symm h]
      · right; rw [h1]; simp [h, h2]

set_option maxHeartbeats 400000 in
/-- internal/stringslite.Cut at one byte. -/
theorem cut0_no (s : ByteArray) (c : UInt8) (w : World) (h : c ∉ s.data.toList) :
    Calls Tryz.prog 42 #[.string s, .string ⟨#[c]⟩] w fun e w' => e = .returned (.tuple #[.string s, .string ⟨#[]⟩, .bool false]) ∧ ∃ n, w' = w.drewN n := by
  have e0 : Lib.indexByte s.data.toList c = -1 := by
    rcases indexByte_cases s.data.toList c with ⟨a, _⟩ | ⟨_, a⟩
    · exact a
    · exact absurd a h
  go_enter Tryz.func42, Tryz.ntmps42
  go_wp2_with (go_at_call 60; refine (Tryz.stringslite_Index_one s c _).mono ?_; rw [e0]; rintro e w' ⟨rfl, rfl⟩)
  go_ret3
  exact ⟨rfl, 0, rfl⟩
set_option maxHeartbeats 400000 in
theorem cut0_yes (s : ByteArray) (c : UInt8) (w : World) (hs : s.size ≤ maxLen) (h : c ∈ s.data.toList) :
    Calls Tryz.prog 42 #[.string s, .string ⟨#[c]⟩] w fun e w' => e = .returned (.tuple #[.string (s.extract 0 (s.data.toList.takeWhile (· != c)).length), .string (s.extract ((s.data.toList.takeWhile (· != c)).length + 1) s.size), .bool true]) ∧ ∃ n, w' = w.drewN n := by
  have e0 : Lib.indexByte s.data.toList c = ((s.data.toList.takeWhile (· != c)).length : Int) := by
    rcases indexByte_cases s.data.toList c with ⟨_, a⟩ | ⟨a, _⟩
    · exact absurd h a
    · exact a
  have hlt : (s.data.toList.takeWhile (· != c)).length < s.size := by
    rw [Lib.size_eq]
    rcases Nat.lt_or_ge (s.data.toList.takeWhile (· != c)).length s.data.toList.length with h1 | h1
    · exact h1
    · exfalso
      have h2 : s.data.toList.takeWhile (· != c) = s.data.toList := List.IsPrefix.eq_of_length_le (List.takeWhile_prefix _) h1
      have h3 := List.all_eq_true.1 (List.all_takeWhile (p := fun (x : UInt8) => x != c) (l := s.data.toList)) c (by rw [h2]; exact h)
      simp at h3
  unfold maxLen at hs
  generalize (s.data.toList.takeWhile (· != c)).length = i at *
  have h1 : IntKind.i64.wrap ((i : Int) + 1) = (i : Int) + 1 := IntWalk.i64_in _ (by omega)
  go_enter Tryz.func42, Tryz.ntmps42
  go_wp2_with (go_at_call 60; refine (Tryz.stringslite_Index_one s c _).mono ?_; rw [e0]; rintro e w' ⟨rfl, rfl⟩)
  go_quiet (fail)
  go_wp2
  go_ret3
  exact ⟨rfl, _, rfl⟩
set_option maxHeartbeats 400000 in
/-- strings.Cut at one byte: there is none. -/
theorem cut_no (s : ByteArray) (c : UInt8) (w : World) (h : c ∉ s.data.toList) :
    Calls Tryz.prog 23 #[.string s, .string ⟨#[c]⟩] w fun e w' => e = .returned (.tuple #[.string s, .string ⟨#[]⟩, .bool false]) ∧ ∃ n, w' = w.drewN n := by
  go_enter Tryz.func23, Tryz.ntmps23
  go_wp2_with (go_at_call 42; refine (cut0_no s c _ h).mono ?_; rintro e w' ⟨rfl, n, rfl⟩)
  go_ret3
  exact ⟨rfl, _, rfl⟩
set_option maxHeartbeats 400000 in
/-- .. there is one. -/
theorem cut_yes (s : ByteArray) (c : UInt8) (w : World) (hs : s.size ≤ maxLen) (h : c ∈ s.data.toList) :
    Calls Tryz.prog 23 #[.string s, .string ⟨#[c]⟩] w fun e w' => e = .returned (.tuple #[.string (s.extract 0 (s.data.toList.takeWhile (· != c)).length), .string (s.extract ((s.data.toList.takeWhile (· != c)).length + 1) s.size), .bool true]) ∧ ∃ n, w' = w.drewN n := by
  go_enter Tryz.func23, Tryz.ntmps23
  go_wp2_with (go_at_call 42; refine (cut0_yes s c _ hs h).mono ?_; rintro e w' ⟨rfl, n, rfl⟩)
  go_ret3
  exact ⟨rfl, _, rfl⟩
/-- A line as a value. -/
def lineV (x : Ln) : Array Value := #[.int .i64 x.no, .int .i64 x.at_, .string ⟨x.text.toArray⟩, .bool x.ended]
def endS (b : Bool) : ByteArray := if b then ⟨#[10]⟩ else ⟨#[]⟩
set_option maxHeartbeats 400000 in
theorem end_any (a b : Int) (t : ByteArray) (x : Bool) (w : World) :
    Calls Tryz.prog 76 #[.agg #[.int .i64 a, .int .i64 b, .string t, .bool x]] w fun e w' => e = .returned (.string (endS x)) ∧ w' = w.alloc (.cells #[.int .i64 a, .int .i64 b, .string t, .bool x] 58) := by
  cases x
  all_goals
    go_enter Tryz.func76, Tryz.ntmps76
    go_wp2
    go_ret
    exact ⟨rfl, rfl⟩

end Go.Proofs.YtoadimagpibfoaaGreatDoor
/- A range over an iterator that keeps state in boxes of its own: the iterator's contract and the law of the statement. The iterator's k boxes lie at the heap's end where its call begins; a round keeps them, the caller's invariant abides their turns. -/
namespace Go.Proofs.YtoadimagpibfoaaGreatDoor
open Go.RowKit

/-- The blocks from B on, k of them, lie as they lay. -/
structure Stay (B k : Nat) (W W' : World) : Prop where
  size : W.heap.size ≤ W'.heap.size
  same : ∀ r, B ≤ r → r < B + k → W'.heap[r]? = W.heap[r]?

theorem Stay.refl (B k : Nat) (W : World) : Stay B k W W := ⟨Nat.le_refl _, fun _ _ _ => rfl⟩
theorem Stay.trans {B k : Nat} {X Y Z : World} (h : Stay B k X Y) (g : Stay B k Y Z) : Stay B k X Z :=
  ⟨Nat.le_trans h.size g.size, fun r a b => (g.same r a b).trans (h.same r a b)⟩
theorem Stay.alloc {B k : Nat} {X Y : World} (h : Stay B k X Y) (hs : B + k ≤ Y.heap.size) (o : Obj) : Stay B k X (Y.alloc o) :=
  h.trans ⟨by simp, fun r _ b => Below.heap_alloc _ _ _ (by omega)⟩
theorem Stay.setCell {B k : Nat} {X Y : World} (h : Stay B k X Y) {p : Addr} (hp : p.block < B ∨ B + k ≤ p.block) (u : Value) : Stay B k X (Y.setCell p u) :=
  h.trans ⟨by simp [World.setCell], fun r a b => Below.heap_setCell _ _ _ _ (by omega)⟩
theorem Stay.drew {B k : Nat} {X Y : World} (h : Stay B k X Y) : Stay B k X Y.drew := ⟨h.size, h.same⟩
theorem Stay.sub {B k B' k' : Nat} {X Y : World} (h : Stay B k X Y) (a : B ≤ B') (b : B' + k' ≤ B + k) : Stay B' k' X Y :=
  ⟨h.size, fun r c d => h.same r (by omega) (by omega)⟩
theorem Stay.grown {B k : Nat} {X Y Z : World} (h : Stay B k X Y) {row : Option Nat} (hg : Y.grownBy Z row) (hs : B + k ≤ Y.heap.size) (hr : ∀ r, row = some r → r < B ∨ B + k ≤ r) : Stay B k X Z :=
  h.trans ⟨hg.size, fun r a b => hg.block r (by omega) (fun e => by have := hr r e.symm; omega)⟩
theorem Stay.below {B k n : Nat} {X Y Z : World} (h : Stay B k X Y) (hb : Below n Y Z) (hn : B + k ≤ n) : Stay B k X Z :=
  h.trans ⟨hb.size, fun r _ b => hb.block r (by omega)⟩

/-- Whatever lay lies as it lay, but for the blocks from B on, k of them. -/
structure Turned (B k : Nat) (W W' : World) : Prop where
  os : W'.os = W.os
  tape : W'.tape = W.tape
  output : W'.output = W.output
  size : W.heap.size ≤ W'.heap.size
  same : ∀ r, r < W.heap.size → r < B ∨ B + k ≤ r → W'.heap[r]? = W.heap[r]?

theorem Turned.refl (B k : Nat) (W : World) : Turned B k W W := ⟨rfl, rfl, rfl, Nat.le_refl _, fun _ _ _ => rfl⟩
theorem Turned.trans {B k : Nat} {X Y Z : World} (h : Turned B k X Y) (g : Turned B k Y Z) : Turned B k X Z :=
  ⟨g.os.trans h.os, g.tape.trans h.tape, g.output.trans h.output, Nat.le_trans h.size g.size, fun r a b => (g.same r (Nat.lt_of_lt_of_le a h.size) b).trans (h.same r a b)⟩
theorem Turned.grown {B k : Nat} {X Y Z : World} (h : Turned B k X Y) {row : Option Nat} (hg : Y.grownBy Z row) (hr : ∀ r, row = some r → B ≤ r ∧ r < B + k) : Turned B k X Z :=
  h.trans ⟨hg.os, hg.tape, hg.output, hg.size, fun r a b => hg.block r a (fun e => by have := hr r e.symm; omega)⟩
theorem Turned.alloc {B k : Nat} {X Y : World} (h : Turned B k X Y) (o : Obj) : Turned B k X (Y.alloc o) :=
  h.grown (World.grownBy_alloc Y o none) (fun r e => by cases e)
theorem Turned.putObj {B k : Nat} {X Y : World} (h : Turned B k X Y) {l : Nat} (o : Obj) (a : B ≤ l) (b : l < B + k) : Turned B k X (Y.putObj l o) :=
  h.grown (grownBy_putObj' Y l o) (fun r e => by cases e; exact ⟨a, b⟩)
theorem Turned.setCell {B k : Nat} {X Y : World} (h : Turned B k X Y) {p : Addr} (a : B ≤ p.block) (b : p.block < B + k) (u : Value) : Turned B k X (Y.setCell p u) :=
  h.trans ⟨rfl, rfl, rfl, by simp [World.setCell], fun r _ c => Below.heap_setCell _ _ _ _ (by omega)⟩
theorem Turned.drew {B k : Nat} {X Y : World} (h : Turned B k X Y) : Turned B k X Y.drew := ⟨h.os, h.tape, h.output, h.size, h.same⟩
theorem Turned.sub {B k B' k' : Nat} {X Y : World} (h : Turned B' k' X Y) (a : B ≤ B') (b : B' + k' ≤ B + k) : Turned B k X Y :=
  ⟨h.os, h.tape, h.output, h.size, fun r c d => h.same r c (by omega)⟩
theorem Turned.of_below {B k n : Nat} {X Y : World} (h : Below n X Y) (hn : X.heap.size ≤ n) : Turned B k X Y :=
  ⟨h.os, h.tape, h.output, h.size, fun r a _ => h.block r (by omega)⟩
theorem Turned.below {B k n : Nat} {X Y : World} (h : Turned B k X Y) (hn : n ≤ B) (hs : n ≤ X.heap.size) : Below n X Y :=
  ⟨h.os, h.tape, h.output, h.size, fun r a => h.same r (by omega) (by omega)⟩
theorem Turned.box {B k b : Nat} {X Y : World} {t : TypeId} {v : Value} (h : Turned B k X Y) (hv : Boxed X b t v) (hb : b < B ∨ B + k ≤ b) : Boxed Y b t v :=
  (h.same b (Array.getElem?_eq_some_iff.1 (show X.heap[b]? = _ from hv)).1 hb).trans hv
theorem Turned.row {B k : Nat} {X Y : World} {base : Nat} {e : TypeId} {size : Nat} {v : Value} {n : Nat} {xs : List Value} (h : Turned B k X Y) (hr : X.ownsRow base e size v n xs)
    (hb : ∀ b, v.ownBlock = some b → b < B ∨ B + k ≤ b) : Y.ownsRow base e size v n xs := by
  refine ⟨hr.1, ?_⟩
  rcases hr.2 with hn | ⟨g, cap, cur, rfl, hbase, hg, rest⟩
  · exact .inl hn
  · exact .inr ⟨g, cap, cur, rfl, hbase, (h.same g (Array.getElem?_eq_some_iff.1 hg).1 (hb g rfl)).trans hg, rest⟩

/-- What abides the turns of the blocks from B on, k of them, and whatever is laid. -/
def Abide {β : Type} (B k : Nat) (J : β → World → Prop) : Prop := ∀ s W W', J s W → Turned B k W W' → J s W'

theorem Abide.sub {β : Type} {B k B' k' : Nat} {J : β → World → Prop} (h : Abide B k J) (a : B ≤ B') (b : B' + k' ≤ B + k) : Abide B' k' J :=
  fun s W W' hs ht => h s W W' hs (ht.sub a b)
theorem Abide.alloc {β : Type} {B k : Nat} {J : β → World → Prop} (h : Abide B k J) {s : β} {W : World} (o : Obj) (hs : J s W) : J s (W.alloc o) :=
  h s W _ hs ((Turned.refl _ _ _).alloc o)
theorem Abide.putObj {β : Type} {B k : Nat} {J : β → World → Prop} (h : Abide B k J) {s : β} {W : World} {l : Nat} (o : Obj) (hs : J s W) (a : B ≤ l) (b : l < B + k) : J s (W.putObj l o) :=
  h s W _ hs ((Turned.refl _ _ _).putObj o a b)
theorem Abide.and {β : Type} {B k : Nat} {I J : β → World → Prop} (h : Abide B k I) (g : Abide B k J) : Abide B k (fun s W => I s W ∧ J s W) :=
  fun s W W' hs ht => ⟨h s W W' hs.1 ht, g s W W' hs.2 ht⟩
theorem Abide.pure {β : Type} (B k : Nat) (p : β → Prop) : Abide B k (fun s (_ : World) => p s) := fun _ _ _ hs _ => hs
theorem Abide.below {β : Type} {B k n : Nat} {w : World} (hn : n ≤ w.heap.size) (hB : n ≤ B) : Abide B k (fun (_ : β) W => Below n w W) :=
  fun _ _ _ hs ht => hs.trans (ht.below hB (Nat.le_trans hn hs.size))
/-- A box outside. -/
theorem Abide.box {β : Type} {B k b : Nat} {t : TypeId} (hb : b < B ∨ B + k ≤ b) (f : β → Value) : Abide B k (fun s W => Boxed W b t (f s)) :=
  fun _ _ _ hs ht => ht.box hs hb

/-- THE ITERATOR's CONTRACT: the function g, with what it has captured, hands the xs over, one by one; k boxes of its own. -/
def Hands {α : Type} (P : Program) (g : Nat) (lb : Array Value) (encs : α → Array Value) (k : Nat) (xs : List α) (w : World) : Prop :=
  ∀ (l : Nat) (J Jx : List α → World → Prop) (W : World), Below w.heap.size w W → Abide W.heap.size k J →
    (∀ pre x post W1, xs = pre ++ x :: post → W.heap.size + k ≤ W1.heap.size → J pre W1 → YieldAt Fence.wide 7 P l (encs x) W1 fun e W' =>
      (e = .returned (.bool true) ∧ J (pre ++ [x]) W' ∧ Stay W.heap.size k W1 W') ∨ (e = .returned (.bool false) ∧ Jx (pre ++ [x]) W')) →
    J [] W →
    CallsIn Fence.wide 8 P g (#[.func (.yield l) #[] #[]] ++ lb) W fun e W' => (∃ v, e = .returned v) ∧ (J xs W' ∨ ∃ pre, pre <+: xs ∧ Jx pre W')

/-- How the body of a round may be left. -/
def left {α : Type} (B k : Nat) (I : List α → World → Prop) (Ix : Code → List α → World → Prop) (xs : List α) (W : World) : Exit → Act → World → Prop
  | .normal, _, W' => Stay B k W W' ∧ I xs W'
  | .ret, _, W' => Stay B k W W' ∧ Ix .ret xs W'
  | .exit id, _, W' => Stay B k W W' ∧ Ix (.exit id) xs W'
  | .goto t, _, W' => Stay B k W W' ∧ Ix (.goto t) xs W'
  | .panic _, _, _ => False
  | .outgrown, _, _ => False

/-- What is to be shown behind the assignment to the loop's left sides. -/
def assigned (B k : Nat) (M : Act → World → Prop) (W : World) : Exit → Act → World → Prop :=
  Exit.then (fun a' W' => Stay B k W W' ∧ M a' W') (fun _ _ _ => False)

variable {P : Program}

theorem wp_ranged {α : Type} {g : Operand} {ps : Array Tmp} {assign body : Code} {Q : Exit → Act → World → Prop} {a : Act} {w : World}
    {gf : Nat} {lb : Array Value} (hg : a.eval g = .func (.func gf) #[] lb) (eg : ∀ args w, (callFunc gf args).run P w = .ok (.enter gf args) w)
    {encs : α → Array Value} {k : Nat} {xs : List α} (hseq : Hands P gf lb encs k xs w) (hps : ∀ x, (encs x).size = ps.size)
    (I : List α → World → Prop) (Ix : Code → List α → World → Prop) (hI : Abide w.heap.size (k + 2) I) (hIx : ∀ c, Abide w.heap.size 2 (Ix c)) (h0 : I [] w)
    (M : List α → α → Act → World → Prop) (hM : ∀ pre x a', Abide w.heap.size 2 (fun (_ : Unit) W => M pre x a' W))
    (hassign : ∀ (l : Nat) (pre : List α) (x : α) (post : List α) (W : World), xs = pre ++ x :: post → w.heap.size + (k + 2) ≤ W.heap.size → I pre W →
      assign.wpIn (Fence.wide.inRound l) 7 P (assigned w.heap.size (k + 2) (M pre x) W) { tmps := (ps.zip (encs x)).foldl (fun t (p, v) => t.setIfInBounds p v) a.tmps, defers := [] } W)
    (hbody : ∀ (l : Nat) (pre : List α) (x : α) (post : List α) (a' : Act) (W : World), xs = pre ++ x :: post → w.heap.size + (k + 2) ≤ W.heap.size → M pre x a' W →
      body.wpIn (Fence.wide.inRound l) 7 P (left w.heap.size (k + 2) I Ix (pre ++ [x]) W) a' W)
    (hdone : ∀ (W : World), I xs W → W.heap[w.heap.size]? = some (.deferred (some [])) → Q .normal { a with defers := { target := .collected w.heap.size, args := #[] } :: a.defers } W)
    (hstop : ∀ (c : Code) (pre : List α) (W : World), pre <+: xs → Ix c pre W → W.heap[w.heap.size]? = some (.deferred (some [])) → c.wpIn Fence.wide 9 P Q { a with defers := { target := .collected w.heap.size, args := #[] } :: a.defers } W) :
    (Code.rangeFunc g ps assign body).wpIn Fence.wide 9 P Q a w := by
  refine wpIn_rangeFunc fun fn _ => ?_
  show ∃ l mark w₁ d w₁' f args w₂, (Instr.enterLoop fn a.tmps ps assign body none).run P w = .ok (l, mark) w₁ ∧ _
  obtain ⟨rec, hrec⟩ : ∃ rec : LoopState → Option Code → Loop, rec = fun st pe => { state := st, pending := pe, fn, tmps := a.tmps, params := ps, assign, body, defers := w.heap.size } := ⟨_, rfl⟩
  obtain ⟨W1, hW1⟩ : ∃ W1, (w.alloc (.deferred (some []))).alloc (.loop (rec .ready none)) = W1 := ⟨_, rfl⟩
  have hz1 : W1.heap.size = w.heap.size + 2 := by rw [← hW1]; simp
  have hL1 : W1.heap[w.heap.size + 1]? = some (.loop (rec .ready none)) := by
    rw [← hW1]; have := World.alloc_heap_new (w.alloc (.deferred (some []))) (.loop (rec .ready none)); rwa [World.size_alloc] at this
  have hK1 : W1.heap[w.heap.size]? = some (.deferred (some [])) := by
    rw [← hW1]; exact (Below.heap_alloc _ _ _ (by simp)).trans (World.alloc_heap_new w _)
  have hI1 : I [] W1 := by rw [← hW1]; exact hI.alloc _ (hI.alloc _ h0)
  have hb1 : Below w.heap.size w W1 := by rw [← hW1]; exact ((Below.refl _ w).alloc (Nat.le_refl _) _).alloc (by simp) _
  -- a turn of one of the iterator's own boxes leaves the two blocks of the statement as they were
  have two : ∀ {A B : World}, Turned W1.heap.size k A B → ∀ q o, q < w.heap.size + 2 → A.heap[q]? = some o → B.heap[q]? = some o :=
    fun ht q o hq ho => (ht.same q (Array.getElem?_eq_some_iff.1 ho).1 (by omega)).trans ho
  refine ⟨w.heap.size + 1, [{ target := .collected w.heap.size, args := #[] }], W1, { target := .fn (.func gf) lb, args := #[.func (.yield (w.heap.size + 1)) #[] #[]] }, W1, gf,
    #[.func (.yield (w.heap.size + 1)) #[] #[]] ++ lb, W1, ?_, ?_, fun _ _ => trivial, ?_, (fun h => by cases h), ?_⟩
  · rw [← hW1, hrec]; exact run_enterLoop_outer _ _ _ _ _
  · simp only [resolve, hg]
    simp [go_sem]
  · simp [invoke, go_sem, eg]
  refine (hseq (w.heap.size + 1)
    (fun pre W => I pre W ∧ W.heap[w.heap.size + 1]? = some (.loop (rec .ready none)) ∧ W.heap[w.heap.size]? = some (.deferred (some [])))
    (fun pre W => ∃ c, Ix c pre W ∧ W.heap[w.heap.size + 1]? = some (.loop (rec .done (some c))) ∧ W.heap[w.heap.size]? = some (.deferred (some [])))
    W1 hb1
    (fun s A B hs ht => ⟨hI s A B hs.1 (ht.sub (by omega) (by omega)), two ht _ _ (by omega) hs.2.1, two ht _ _ (by omega) hs.2.2⟩)
    ?_ ⟨hI1, hL1, hK1⟩).mono ?_
  · -- one round
    rintro pre x post W hx hsz ⟨hi, hl, hk⟩
    rw [hz1] at hsz
    have hy := run_yield (P := P) (args := encs x) hl (by rw [hrec]; exact hps x)
    rw [hrec] at hy
    refine ⟨fn, _, assign, body, hy, roundIn_of_wpIn trivial (wpIn_mono (hassign _ pre x post W hx (by omega) hi) ?_)⟩
    intro e a' Wa hp
    cases e with
    | normal =>
      obtain ⟨hs1, hm⟩ := hp
      have hla := (hs1.same (w.heap.size + 1) (by omega) (by omega)).trans hl
      have hka := (hs1.same w.heap.size (by omega) (by omega)).trans hk
      have hlt := (Array.getElem?_eq_some_iff.1 hla).1
      refine ⟨_, run_beginRound hla (by rw [hrec]), ?_⟩
      have hl2 : (Wa.putObj (w.heap.size + 1) (.loop { rec .ready none with state := .busy })).heap[w.heap.size + 1]? = some (.loop { rec .ready none with state := .busy }) := World.putObj_heap_same hlt
      have hk2 : (Wa.putObj (w.heap.size + 1) (.loop { rec .ready none with state := .busy })).heap[w.heap.size]? = some (.deferred (some [])) := (World.putObj_heap_other (by omega)).trans hka
      have hn2 : ∀ r, w.heap.size + 2 ≤ r → (Wa.putObj (w.heap.size + 1) (.loop { rec .ready none with state := .busy })).heap[r]? = Wa.heap[r]? := fun r hr => World.putObj_heap_other (by omega)
      have hz2 : ∀ o, (Wa.putObj (w.heap.size + 1) o).heap.size = Wa.heap.size := fun o => by simp
      have hm2 := (hM pre x a').putObj (s := ()) (.loop { rec .ready none with state := .busy }) hm (l := w.heap.size + 1) (by omega) (by omega)
      have hsa := hs1.size
      refine wpIn_mono (hbody _ pre x post a' _ hx (by rw [hz2]; omega) hm2) ?_
      have fin : ∀ (jump : Option Code) (W3 : World), Stay w.heap.size (k + 2) (Wa.putObj (w.heap.size + 1) (.loop { rec .ready none with state := .busy })) W3 →
          (Instr.endRound (w.heap.size + 1) jump).run P W3 = .ok (.bool jump.isNone) (W3.putObj (w.heap.size + 1) (.loop (rec (if jump.isNone then .ready else .done) jump))) ∧
          (W3.putObj (w.heap.size + 1) (.loop (rec (if jump.isNone then .ready else .done) jump))).heap[w.heap.size + 1]? = some (.loop (rec (if jump.isNone then .ready else .done) jump)) ∧
          (W3.putObj (w.heap.size + 1) (.loop (rec (if jump.isNone then .ready else .done) jump))).heap[w.heap.size]? = some (.deferred (some [])) := fun jump W3 hs3 => by
        have hl3 := (hs3.same (w.heap.size + 1) (by omega) (by omega)).trans hl2
        have hk3 := (hs3.same w.heap.size (by omega) (by omega)).trans hk2
        have := run_endRound (P := P) jump hl3
        rw [hrec] at this ⊢
        exact ⟨this, World.putObj_heap_same (Array.getElem?_eq_some_iff.1 hl3).1, (World.putObj_heap_other (by omega)).trans hk3⟩
      intro e a3 W3 hp
      cases e with
      | normal =>
        obtain ⟨hs3, hi3⟩ := hp
        obtain ⟨hr, hl4, hk4⟩ := fin none W3 hs3
        refine ⟨_, _, hr, .inl ⟨rfl, ⟨hI.putObj _ hi3 (by omega) (by omega), hl4, hk4⟩, ?_⟩⟩
        have hsz3 := hs3.size
        refine ⟨by simp only [World.putObj, Array.size_setIfInBounds] at hsz3 ⊢; omega, fun r a b => ?_⟩
        rw [hz1] at a b
        rw [World.putObj_heap_other (by omega), hs3.same r (by omega) (by omega), hn2 r a, hs1.same r (by omega) (by omega)]
      | ret =>
        obtain ⟨hs3, hi3⟩ := hp
        obtain ⟨hr, hl4, hk4⟩ := fin (some .ret) W3 hs3
        exact ⟨_, _, hr, .inr ⟨rfl, .ret, (hIx _).putObj _ hi3 (by omega) (by omega), hl4, hk4⟩⟩
      | exit id =>
        obtain ⟨hs3, hi3⟩ := hp
        obtain ⟨hr, hl4, hk4⟩ := fin (some (.exit id)) W3 hs3
        exact ⟨_, _, hr, .inr ⟨rfl, .exit id, (hIx _).putObj _ hi3 (by omega) (by omega), hl4, hk4⟩⟩
      | goto t =>
        obtain ⟨hs3, hi3⟩ := hp
        obtain ⟨hr, hl4, hk4⟩ := fin (some (.goto t)) W3 hs3
        exact ⟨_, _, hr, .inr ⟨rfl, .goto t, (hIx _).putObj _ hi3 (by omega) (by omega), hl4, hk4⟩⟩
      | panic ch => exact hp.elim
      | outgrown => exact hp.elim
    | ret => exact hp.elim
    | exit id => exact hp.elim
    | goto t => exact hp.elim
    | panic ch => exact hp.elim
    | outgrown => exact hp.elim
  · -- behind the iterator
    rintro e W2 ⟨⟨v, rfl⟩, (⟨hi, hl, hk⟩ | ⟨pre, hpre, c, hi, hl, hk⟩)⟩
    · exact ⟨none, _, by have := run_endLoop (P := P) hl (by rw [hrec]; simp); rw [hrec] at this; exact this, hdone _ (hI.putObj _ hi (by omega) (by omega)) ((World.putObj_heap_other (by omega)).trans hk)⟩
    · exact ⟨some c, _, by have := run_endLoop (P := P) hl (by rw [hrec]; simp); rw [hrec] at this; exact this, hstop c pre _ hpre ((hIx c).putObj _ hi (by omega) (by omega)) ((World.putObj_heap_other (by omega)).trans hk)⟩
end Go.Proofs.YtoadimagpibfoaaGreatDoor
/- Heap objects that belong to one owner: cells known whole, rows, what else lies as it lay; tags of blocks. -/
namespace Go.RowKit
theorem Below.drewNN {B : Nat} {a w : World} (h : Below B a w) (n : Nat) : Below B a (w.drewN n) := ⟨h.os, h.tape, h.output, h.size, h.block⟩
end Go.RowKit
namespace Go.Proofs.YtoadimagpibfoaaGreatDoor
open Go.RowKit

/-- Whatever lay lies as it lay, but for the blocks of S. -/
structure Only (S : Nat → Prop) (W W' : World) : Prop where
  os : W'.os = W.os
  tape : W'.tape = W.tape
  output : W'.output = W.output
  size : W.heap.size ≤ W'.heap.size
  same : ∀ r, r < W.heap.size → ¬ S r → W'.heap[r]? = W.heap[r]?
section
variable {S : Nat → Prop} {X Y Z : World}
theorem Only.refl (S : Nat → Prop) (W : World) : Only S W W := ⟨rfl, rfl, rfl, Nat.le_refl _, fun _ _ _ => rfl⟩
theorem Only.trans {S' : Nat → Prop} (h : Only S X Y) (g : Only S' Y Z) (hs : ∀ r, r < X.heap.size → S' r → S r) : Only S X Z :=
  ⟨g.os.trans h.os, g.tape.trans h.tape, g.output.trans h.output, Nat.le_trans h.size g.size, fun r a b => (g.same r (Nat.lt_of_lt_of_le a h.size) (fun c => b (hs r a c))).trans (h.same r a b)⟩
theorem Only.alloc (h : Only S X Y) (o : Obj) : Only S X (Y.alloc o) :=
  ⟨h.os, h.tape, h.output, by simp; have := h.size; omega, fun r a b => (Below.heap_alloc _ _ _ (Nat.lt_of_lt_of_le a h.size)).trans (h.same r a b)⟩
theorem Only.setCell (h : Only S X Y) {p : Addr} (hp : S p.block ∨ X.heap.size ≤ p.block) (u : Value) : Only S X (Y.setCell p u) :=
  ⟨h.os, h.tape, h.output, by simp only [World.setCell, Array.size_modify]; exact h.size, fun r a b => (Below.heap_setCell _ _ _ _ (by rintro rfl; rcases hp with hp | hp; exact b hp; omega)).trans (h.same r a b)⟩
theorem Only.cellS {p : Nat} (h : Only (· = p) X Y) (o : Nat) (u : Value) : Only (· = p) X (Y.setCell ⟨p, o, none⟩ u) := h.setCell (p := ⟨p, o, none⟩) (.inl rfl) u
theorem Only.drew (h : Only S X Y) : Only S X Y.drew := ⟨h.os, h.tape, h.output, h.size, h.same⟩
theorem Only.drewN (h : Only S X Y) (n : Nat) : Only S X (Y.drewN n) := ⟨h.os, h.tape, h.output, h.size, h.same⟩
theorem Only.grown (h : Only S X Y) {row : Option Nat} (g : Y.grownBy Z row) (hr : ∀ k, row = some k → S k ∨ X.heap.size ≤ k) : Only S X Z :=
  ⟨g.os.trans h.os, g.tape.trans h.tape, g.output.trans h.output, Nat.le_trans h.size g.size, fun r a b => (g.block r (Nat.lt_of_lt_of_le a h.size) (fun e => by rcases hr r e.symm with c | c; exact b c; omega)).trans (h.same r a b)⟩
theorem Only.below (h : Only S X Y) {B : Nat} (g : Below B Y Z) (hB : X.heap.size ≤ B) : Only S X Z :=
  ⟨g.os.trans h.os, g.tape.trans h.tape, g.output.trans h.output, Nat.le_trans h.size g.size, fun r a b => (g.block r (by omega)).trans (h.same r a b)⟩
theorem Only.to_below (h : Only S X Y) {B : Nat} (hB : B ≤ X.heap.size) (hs : ∀ r, r < B → ¬ S r) : Below B X Y :=
  ⟨h.os, h.tape, h.output, h.size, fun r a => h.same r (by omega) (hs r a)⟩
theorem Only.of_below {B : Nat} (g : Below B X Y) (hB : X.heap.size ≤ B) : Only S X Y := (Only.refl S X).below g hB
theorem Only.mono {S' : Nat → Prop} (h : Only S X Y) (hs : ∀ r, r < X.heap.size → S r → S' r) : Only S' X Y := ⟨h.os, h.tape, h.output, h.size, fun r a b => h.same r a (fun c => b (hs r a c))⟩
end

theorem row_same {W W' : World} {base : Nat} {e : TypeId} {size : Nat} {v : Value} {n : Nat} {xs : List Value} (h : W.ownsRow base e size v n xs) (hs : ∀ b, v.ownBlock = some b → W'.heap[b]? = W.heap[b]?) : W'.ownsRow base e size v n xs := by
  refine ⟨h.1, ?_⟩
  rcases h.2 with hn | ⟨g, cap, cur, rfl, hbase, hg, rest⟩
  · exact .inl hn
  · exact .inr ⟨g, cap, cur, rfl, hbase, (hs g rfl).trans hg, rest⟩
theorem row_only {W W' : World} {S : Nat → Prop} {base : Nat} {e : TypeId} {size : Nat} {v : Value} {n : Nat} {xs : List Value} (h : W.ownsRow base e size v n xs) (g : Only S W W') (hs : ∀ b, v.ownBlock = some b → ¬ S b) : W'.ownsRow base e size v n xs :=
  row_same h fun b hb => g.same b (h.lt b hb).2 (hs b hb)
theorem row_below {W W' : World} {B : Nat} {base : Nat} {e : TypeId} {size : Nat} {v : Value} {n : Nat} {xs : List Value} (h : W.ownsRow base e size v n xs) (g : Below B W W') (hB : W.heap.size ≤ B) : W'.ownsRow base e size v n xs :=
  row_same h fun b hb => g.block b (Nat.lt_of_lt_of_le (h.lt b hb).2 hB)
theorem row_cell {W : World} {base : Nat} {e : TypeId} {size : Nat} {v : Value} {n : Nat} {xs : List Value} (h : W.ownsRow base e size v n xs) {p : Addr} (hp : v.ownBlock ≠ some p.block) (u : Value) : (W.setCell p u).ownsRow base e size v n xs :=
  row_same h fun b hb => Below.heap_setCell _ _ _ _ (fun e => hp (by rw [hb, e]))
/-- A block of cells known whole. -/
def Cells (W : World) (b : Nat) (t : TypeId) (cur : Array Value) : Prop := W.heap[b]? = some (.cells cur t (0, 0))
section
variable {W W' : World} {b : Nat} {t : TypeId} {cur : Array Value}
theorem Cells.lt (h : Cells W b t cur) : b < W.heap.size := (Array.getElem?_eq_some_iff.1 (show W.heap[b]? = _ from h)).1
theorem Cells.new (W : World) (t : TypeId) (cur : Array Value) : Cells (W.alloc (.cells cur t)) W.heap.size t cur := heap_alloc_new W _
theorem Cells.alloc (h : Cells W b t cur) (o : Obj) : Cells (W.alloc o) b t cur := (Below.heap_alloc _ _ _ h.lt).trans h
theorem Cells.drewN (h : Cells W b t cur) (n : Nat) : Cells (W.drewN n) b t cur := h
theorem Cells.drew (h : Cells W b t cur) : Cells W.drew b t cur := h
theorem Cells.other (h : Cells W b t cur) {p : Addr} (hp : b ≠ p.block) (u : Value) : Cells (W.setCell p u) b t cur := (Below.heap_setCell _ _ _ _ hp).trans h
theorem Cells.set (h : Cells W b t cur) (i : Nat) (u : Value) : Cells (W.setCell ⟨b, i, none⟩ u) b t (cur.setIfInBounds i u) := by
  obtain ⟨hlt, hk⟩ := Array.getElem?_eq_some_iff.1 (show W.heap[b]? = _ from h)
  show (W.heap.modify b _)[b]? = _
  rw [Array.getElem?_eq_getElem (by rw [Array.size_modify]; exact hlt), Array.getElem_modify_self, hk]
  rfl
theorem Cells.cell (h : Cells W b t cur) (i : Nat) : W.cell? ⟨b, i, none⟩ = cur[i]? := by
  simp [World.cell?, show W.heap[b]? = _ from h]
theorem Cells.frozen (h : Cells W b t cur) (i : Nat) : W.frozen? ⟨b, i, none⟩ = false := by
  simp [World.frozen?, show W.heap[b]? = _ from h]
theorem Cells.only {S : Nat → Prop} (h : Cells W b t cur) (g : Only S W W') (hb : ¬ S b) : Cells W' b t cur := (g.same b h.lt hb).trans h
theorem Cells.below {B : Nat} (h : Cells W b t cur) (g : Below B W W') (hb : b < B) : Cells W' b t cur := (g.block b hb).trans h
theorem Cells.grown {row : Option Nat} (h : Cells W b t cur) (g : W.grownBy W' row) (hb : some b ≠ row) : Cells W' b t cur := (g.block b h.lt hb).trans h
end
end Go.Proofs.YtoadimagpibfoaaGreatDoor
