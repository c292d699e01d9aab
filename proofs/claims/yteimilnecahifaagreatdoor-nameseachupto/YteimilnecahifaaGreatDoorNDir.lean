/- The contracts of the library functions that the program calls, laid at its own numbers. -/
import Derived.Shelf.Strings.SlTrimAscii
import Derived.Test.YteimilnecahifaaGreatDoorShelf4
import Derived.Shelf.Strings.Builder1
import Derived.Shelf.Strings.Builder2
import Derived.Shelf.Strings.OnBuilder
import Derived.Shelf.Strings.Trim
import Derived.Shelf.Small.Utf8
import Derived.Shelf.Small.Strs
import Derived.Shelf.Small.Wraps
import Derived.Shelf.Strings.BuilderF
import Derived.Shelf.Strings.Builder2Cap
import Derived.Shelf.Strconv.Itoa0
import Derived.Shelf.Strconv.Itoa1
import Derived.Shelf.LaysM
import Derived.Shelf.Strconv.Itoa2
import Derived.Shelf.Strconv.Itoa3
import Derived.Shelf.Strconv.Itoa4
import Derived.Shelf.Strconv.Clone
import Derived.Shelf.Strconv.SyntaxError
import Derived.Shelf.Strings.Search1
import Derived.Shelf.Strings.Search2
import Derived.Shelf.Strings.Search3
import Derived.Shelf.Strings.Cut
import Derived.Shelf.Strings.Count
import Derived.Shelf.Strings.Shaped
import Derived.Shelf.Strings.LastIndex
import Derived.Shelf.Strings.Prefix
import Derived.Shelf.Unicode.Latin
import Derived.Shelf.Strings.Runes
import Derived.Shelf.Strings.IndexAny
import Derived.Shelf.Strings.AsciiSet
import Derived.Shelf.Strings.IndexAnyAll
import Derived.Shelf.Bits.Mul64
import Derived.Shelf.Strings.Repeat
import Derived.Shelf.Unicode.DecodeSlow
import Derived.Shelf.Unicode.CaseLookup
import Derived.Shelf.Unicode.CaseConvert
import Derived.Shelf.Unicode.CaseTo
import Derived.Shelf.Unicode.CaseLaid
import Derived.Shelf.Slices.Clone
import Derived.Shelf.Bytes.SlClone
import Derived.Shelf.SlicesE.Clone
import Derived.Test.YteimilnecahifaaGreatDoorProg
import Derived.Test.YteimilnecahifaaGreatDoorNRef2
namespace Go.Proofs
open Go.Shelf
def Tryz.lays161_ren : Go.Shelf.Ren := ⟨fun | 161 => 203 | 231 => 227 | 227 => 22 | 233 => 228 | 235 => 229 | 228 => 31 | 197 => 57 | 151 => 33 | 260 => 90 | 152 => 58 | 137 => 91 | 119 => 92 | 224 => 93 | 225 => 94 | 217 => 122 | 266 => 157 | n => n, fun | 9 => 9 | 4 => 4 | 3 => 3 | 5 => 5 | 117 => 50 | 116 => 49 | 0 => 0 | 124 => 53 | 105 => 58 | 21 => 21 | 119 => 207 | 46 => 105 | 139 => 210 | 138 => 209 | n => n, fun | 3 => 2 | 4 => 3 | n => n⟩
theorem Tryz.lays161 : Go.Proofs.Lays.n161 Tryz.prog Tryz.lays161_ren := {
  mixed := by kernel_rfl
  f119 := Tryz.func92.trans (congrArg some (by kernel_rfl))
  f137 := Tryz.func91.trans (congrArg some (by kernel_rfl))
  f151 := Tryz.func33.trans (congrArg some (by kernel_rfl))
  f152 := Tryz.func58.trans (congrArg some (by kernel_rfl))
  f161 := Tryz.func203.trans (congrArg some (by kernel_rfl))
  f197 := Tryz.func57.trans (congrArg some (by kernel_rfl))
  f217 := Tryz.func122.trans (congrArg some (by kernel_rfl))
  f224 := Tryz.func93.trans (congrArg some (by kernel_rfl))
  f225 := Tryz.func94.trans (congrArg some (by kernel_rfl))
  f227 := Tryz.func22.trans (congrArg some (by kernel_rfl))
  f228 := Tryz.func31.trans (congrArg some (by kernel_rfl))
  f231 := Tryz.func227.trans (congrArg some (by kernel_rfl))
  f233 := Tryz.func228.trans (congrArg some (by kernel_rfl))
  f235 := Tryz.func229.trans (congrArg some (by kernel_rfl))
  f260 := Tryz.func90.trans (congrArg some (by kernel_rfl))
  f266 := Tryz.func157.trans (congrArg some (by kernel_rfl))
  t0 := Tryz.underlying0
  a0 := Tryz.isAgg0
  z0 := Tryz.sizeOf0
  v0 := Tryz.zeroValue0
  t3 := Tryz.underlying3
  a3 := Tryz.isAgg3
  z3 := Tryz.sizeOf3
  v3 := Tryz.zeroValue3
  t4 := Tryz.underlying4
  a4 := Tryz.isAgg4
  z4 := Tryz.sizeOf4
  v4 := Tryz.zeroValue4
  t5 := Tryz.underlying5
  a5 := Tryz.isAgg5
  z5 := Tryz.sizeOf5
  v5 := Tryz.zeroValue5
  t9 := Tryz.underlying9
  a9 := Tryz.isAgg9
  z9 := Tryz.sizeOf9
  v9 := Tryz.zeroValue9
  t21 := Tryz.underlying21
  a21 := Tryz.isAgg21
  z21 := Tryz.sizeOf21
  v21 := Tryz.zeroValue21
  t46 := Tryz.underlying105
  a46 := Tryz.isAgg105
  z46 := Tryz.sizeOf105
  v46 := Tryz.zeroValue105
  t105 := Tryz.underlying58
  a105 := Tryz.isAgg58
  z105 := Tryz.sizeOf58
  v105 := Tryz.zeroValue58
  t116 := Tryz.underlying49
  a116 := Tryz.isAgg49
  z116 := Tryz.sizeOf49
  t117 := Tryz.underlying50
  a117 := Tryz.isAgg50
  z117 := Tryz.sizeOf50
  v117 := Tryz.zeroValue50
  t119 := Tryz.underlying207
  a119 := Tryz.isAgg207
  z119 := Tryz.sizeOf207
  t124 := Tryz.underlying53
  a124 := Tryz.isAgg53
  z124 := Tryz.sizeOf53
  v124 := Tryz.zeroValue53
  t138 := Tryz.underlying209
  a138 := Tryz.isAgg209
  z138 := Tryz.sizeOf209
  v138 := Tryz.zeroValue209
  t139 := Tryz.underlying210
  a139 := Tryz.isAgg210
  z139 := Tryz.sizeOf210
  v139 := Tryz.zeroValue210
  g3 := by kernel_rfl
  g4 := by kernel_rfl }
def Tryz.lays103_ren : Go.Shelf.Ren := ⟨fun | 103 => 158 | 210 => 192 | 206 => 184 | n => n, fun | 9 => 9 | 4 => 4 | 24 => 261 | 3 => 3 | n => n, fun | n => n⟩
theorem Tryz.lays103 : Go.Proofs.Lays.n103 Tryz.prog Tryz.lays103_ren := {
  mixed := by kernel_rfl
  f103 := Tryz.func158.trans (congrArg some (by kernel_rfl))
  f206 := Tryz.func184.trans (congrArg some (by kernel_rfl))
  f210 := Tryz.func192.trans (congrArg some (by kernel_rfl))
  t3 := Tryz.underlying3
  a3 := Tryz.isAgg3
  z3 := Tryz.sizeOf3
  v3 := Tryz.zeroValue3
  t4 := Tryz.underlying4
  a4 := Tryz.isAgg4
  z4 := Tryz.sizeOf4
  v4 := Tryz.zeroValue4
  t9 := Tryz.underlying9
  a9 := Tryz.isAgg9
  z9 := Tryz.sizeOf9
  v9 := Tryz.zeroValue9
  t24 := Tryz.underlying261
  a24 := Tryz.isAgg261
  z24 := Tryz.sizeOf261
  v24 := Tryz.zeroValue261 }
open Go.RowKit in
theorem Tryz.strings_CutPrefix (s p : ByteArray) (w : World) :
    Calls Tryz.prog 158 #[.string s, .string p] w fun e w' => e = .returned (.tuple #[.string ⟨(Lib.trimPrefix s.data.toList p.data.toList).toArray⟩, .bool (Lib.hasPrefix s.data.toList p.data.toList)]) ∧ w' = w := Any.strings_CutPrefix Tryz.lays103 s p w
def Tryz.lays283_ren : Go.Shelf.Ren := ⟨fun | 283 => 36 | n => n, fun | 3 => 3 | 9 => 9 | 4 => 4 | n => n, fun | n => n⟩
theorem Tryz.lays283 : Go.Proofs.Lays.n283 Tryz.prog Tryz.lays283_ren := {
  mixed := by kernel_rfl
  f283 := Tryz.func36.trans (congrArg some (by kernel_rfl))
  t3 := Tryz.underlying3
  a3 := Tryz.isAgg3
  z3 := Tryz.sizeOf3
  v3 := Tryz.zeroValue3
  t4 := Tryz.underlying4
  a4 := Tryz.isAgg4
  z4 := Tryz.sizeOf4
  v4 := Tryz.zeroValue4
  t9 := Tryz.underlying9
  a9 := Tryz.isAgg9
  z9 := Tryz.sizeOf9
  v9 := Tryz.zeroValue9 }
open Go.Lib in
theorem Tryz.internal_strconv_small (i : Nat) (h : i < 100) (w : World) :
    Calls Tryz.prog 36 #[.int .i64 i] w fun e w' => e = .returned (.string ⟨(Lib.decDigits i).toArray⟩) ∧ w' = w := Any.internal_strconv_small Tryz.lays283 i h w
def Tryz.laysM284_ren : Go.Shelf.Ren := ⟨fun | 284 => 37 | 129 => 60 | 317 => 59 | 318 => 61 | n => n, fun | 53 => 66 | 3 => 3 | 212 => 108 | 0 => 0 | 4 => 4 | 46 => 105 | 5 => 5 | 9 => 9 | n => n, fun | 17 => 1 | n => n⟩
theorem Tryz.laysM284 : Go.Proofs.LaysM.n284 Tryz.prog Tryz.laysM284_ren := {
  mixed := by kernel_rfl
  f129 := Tryz.func60.trans (congrArg some (by kernel_rfl))
  f284 := Tryz.func37.trans (congrArg some (by kernel_rfl))
  f317 := Tryz.func59.trans (congrArg some (by kernel_rfl))
  f318 := Tryz.func61.trans (congrArg some (by kernel_rfl))
  t0 := Tryz.underlying0
  a0 := Tryz.isAgg0
  z0 := Tryz.sizeOf0
  v0 := Tryz.zeroValue0
  t3 := Tryz.underlying3
  a3 := Tryz.isAgg3
  z3 := Tryz.sizeOf3
  v3 := Tryz.zeroValue3
  t4 := Tryz.underlying4
  a4 := Tryz.isAgg4
  z4 := Tryz.sizeOf4
  v4 := Tryz.zeroValue4
  t5 := Tryz.underlying5
  a5 := Tryz.isAgg5
  z5 := Tryz.sizeOf5
  v5 := Tryz.zeroValue5
  t9 := Tryz.underlying9
  a9 := Tryz.isAgg9
  z9 := Tryz.sizeOf9
  v9 := Tryz.zeroValue9
  t46 := Tryz.underlying105
  a46 := Tryz.isAgg105
  z46 := Tryz.sizeOf105
  v46 := Tryz.zeroValue105
  t53 := Tryz.underlying66
  a53 := Tryz.isAgg66
  z53 := Tryz.sizeOf66
  v53 := Tryz.zeroValue66
  t212 := Tryz.underlying108
  a212 := Tryz.isAgg108
  z212 := Tryz.sizeOf108
  v212 := Tryz.zeroValue108
  g17 := by kernel_rfl
  i0 := by kernel_rfl
  i3 := by kernel_rfl
  i4 := by kernel_rfl
  i5 := by kernel_rfl
  i9 := by kernel_rfl
  i46 := by kernel_rfl
  i53 := by kernel_rfl
  i212 := by kernel_rfl
  m17 := by kernel_rfl }
open Go.Lib in
theorem Tryz.internal_strconv_numDigits (u : Nat) (h1 : 1 ≤ u) (h2 : u < 18446744073709551616) (w : World) (htab : Lib.TabIs Tryz.prog w "internal/strconv.uint64pow10" .u64 Lib.pow10Tab) :
    Calls Tryz.prog 37 #[.int .u64 u] w fun e w' => e = .returned (.int .i64 (Lib.nDigits u)) ∧ w' = w := Any.internal_strconv_numDigits Tryz.laysM284 u h1 h2 w htab
def Tryz.lays285_ren : Go.Shelf.Ren := ⟨fun | 285 => 38 | n => n, fun | 37 => 27 | 53 => 66 | 3 => 3 | 4 => 4 | 51 => 61 | 9 => 9 | 5 => 5 | 0 => 0 | n => n, fun | n => n⟩
theorem Tryz.lays285 : Go.Proofs.Lays.n285 Tryz.prog Tryz.lays285_ren := {
  mixed := by kernel_rfl
  f285 := Tryz.func38.trans (congrArg some (by kernel_rfl))
  t0 := Tryz.underlying0
  a0 := Tryz.isAgg0
  z0 := Tryz.sizeOf0
  v0 := Tryz.zeroValue0
  t3 := Tryz.underlying3
  a3 := Tryz.isAgg3
  z3 := Tryz.sizeOf3
  v3 := Tryz.zeroValue3
  t4 := Tryz.underlying4
  a4 := Tryz.isAgg4
  z4 := Tryz.sizeOf4
  v4 := Tryz.zeroValue4
  t5 := Tryz.underlying5
  a5 := Tryz.isAgg5
  z5 := Tryz.sizeOf5
  v5 := Tryz.zeroValue5
  t9 := Tryz.underlying9
  a9 := Tryz.isAgg9
  z9 := Tryz.sizeOf9
  v9 := Tryz.zeroValue9
  t37 := Tryz.underlying27
  a37 := Tryz.isAgg27
  z37 := Tryz.sizeOf27
  v37 := Tryz.zeroValue27
  t51 := Tryz.underlying61
  a51 := Tryz.isAgg61
  z51 := Tryz.sizeOf61
  v51 := Tryz.zeroValue61
  t53 := Tryz.underlying66
  a53 := Tryz.isAgg66
  z53 := Tryz.sizeOf66
  v53 := Tryz.zeroValue66 }
open Go.RowKit Go.Sort Go.Lib in
theorem Tryz.internal_strconv_formatBase10 (blk off cap : Nat) (u : Nat) (d : Array UInt8) (w : World) (hH : Holds (fun (b : UInt8) => Value.int .u8 (b.toNat : Int)) w blk off d) (hu : u < 10 ^ d.size) (hu64 : u < 18446744073709551616) (hsz : d.size < 4611686018427387904) :
    Calls Tryz.prog 38 #[.slice (some ⟨blk, off, none⟩) d.size cap, .int .u64 u] w fun e w' =>
      e = .returned (.tuple #[]) ∧ ∃ (n v' : Nat) (dk : Array UInt8), w' = (putRow (fun (b : UInt8) => Value.int .u8 (b.toNat : Int)) w blk off dk).drewN n ∧ FmtInv d.size u 0 v' dk := Any.internal_strconv_formatBase10 Tryz.lays285 blk off cap u d w hH hu hu64 hsz
def Tryz.lays101_ren : Go.Shelf.Ren := ⟨fun | 101 => 249 | 208 => 264 | 206 => 184 | n => n, fun | 9 => 9 | 4 => 4 | 3 => 3 | n => n, fun | n => n⟩
theorem Tryz.lays101 : Go.Proofs.Lays.n101 Tryz.prog Tryz.lays101_ren := {
  mixed := by kernel_rfl
  f101 := Tryz.func249.trans (congrArg some (by kernel_rfl))
  f206 := Tryz.func184.trans (congrArg some (by kernel_rfl))
  f208 := Tryz.func264.trans (congrArg some (by kernel_rfl))
  t3 := Tryz.underlying3
  a3 := Tryz.isAgg3
  z3 := Tryz.sizeOf3
  v3 := Tryz.zeroValue3
  t4 := Tryz.underlying4
  a4 := Tryz.isAgg4
  z4 := Tryz.sizeOf4
  v4 := Tryz.zeroValue4
  t9 := Tryz.underlying9
  a9 := Tryz.isAgg9
  z9 := Tryz.sizeOf9
  v9 := Tryz.zeroValue9 }
open Go.RowKit Go.Lib in
theorem Tryz.strings_TrimPrefix (s p : ByteArray) (w : World) :
    Calls Tryz.prog 249 #[.string s, .string p] w fun e w' => e = .returned (.string ⟨(Lib.trimPrefix s.data.toList p.data.toList).toArray⟩) ∧ w' = w := Any.strings_TrimPrefix Tryz.lays101 s p w
def Tryz.lays105_ren : Go.Shelf.Ren := ⟨fun | 105 => 246 | 212 => 261 | 99 => 152 | 165 => 148 | 166 => 149 | 170 => 262 | 169 => 150 | 263 => 274 | 264 => 275 | 206 => 184 | 240 => 180 | 241 => 181 | 276 => 201 | 277 => 202 | n => n, fun | 9 => 9 | 3 => 3 | 4 => 4 | 20 => 20 | 0 => 0 | 46 => 105 | 109 => 331 | 5 => 5 | 72 => 246 | 76 => 249 | 51 => 61 | 146 => 62 | 53 => 66 | 148 => 344 | 70 => 244 | 37 => 27 | 75 => 248 | 127 => 281 | 164 => 299 | 80 => 251 | n => n, fun | n => n⟩
theorem Tryz.lays105 : Go.Proofs.Lays.n105 Tryz.prog Tryz.lays105_ren := {
  mixed := by kernel_rfl
  f99 := Tryz.func152.trans (congrArg some (by kernel_rfl))
  f105 := Tryz.func246.trans (congrArg some (by kernel_rfl))
  f165 := Tryz.func148.trans (congrArg some (by kernel_rfl))
  f166 := Tryz.func149.trans (congrArg some (by kernel_rfl))
  f169 := Tryz.func150.trans (congrArg some (by kernel_rfl))
  f170 := Tryz.func262.trans (congrArg some (by kernel_rfl))
  f206 := Tryz.func184.trans (congrArg some (by kernel_rfl))
  f212 := Tryz.func261.trans (congrArg some (by kernel_rfl))
  f240 := Tryz.func180.trans (congrArg some (by kernel_rfl))
  f241 := Tryz.func181.trans (congrArg some (by kernel_rfl))
  f263 := Tryz.func274.trans (congrArg some (by kernel_rfl))
  f264 := Tryz.func275.trans (congrArg some (by kernel_rfl))
  f276 := Tryz.func201.trans (congrArg some (by kernel_rfl))
  f277 := Tryz.func202.trans (congrArg some (by kernel_rfl))
  t0 := Tryz.underlying0
  a0 := Tryz.isAgg0
  z0 := Tryz.sizeOf0
  v0 := Tryz.zeroValue0
  t3 := Tryz.underlying3
  a3 := Tryz.isAgg3
  z3 := Tryz.sizeOf3
  v3 := Tryz.zeroValue3
  t4 := Tryz.underlying4
  a4 := Tryz.isAgg4
  z4 := Tryz.sizeOf4
  v4 := Tryz.zeroValue4
  t5 := Tryz.underlying5
  a5 := Tryz.isAgg5
  z5 := Tryz.sizeOf5
  v5 := Tryz.zeroValue5
  t9 := Tryz.underlying9
  a9 := Tryz.isAgg9
  z9 := Tryz.sizeOf9
  v9 := Tryz.zeroValue9
  t20 := Tryz.underlying20
  a20 := Tryz.isAgg20
  z20 := Tryz.sizeOf20
  v20 := Tryz.zeroValue20
  t37 := Tryz.underlying27
  a37 := Tryz.isAgg27
  z37 := Tryz.sizeOf27
  v37 := Tryz.zeroValue27
  t46 := Tryz.underlying105
  a46 := Tryz.isAgg105
  z46 := Tryz.sizeOf105
  v46 := Tryz.zeroValue105
  t51 := Tryz.underlying61
  a51 := Tryz.isAgg61
  z51 := Tryz.sizeOf61
  v51 := Tryz.zeroValue61
  t53 := Tryz.underlying66
  a53 := Tryz.isAgg66
  z53 := Tryz.sizeOf66
  v53 := Tryz.zeroValue66
  t70 := Tryz.underlying244
  a70 := Tryz.isAgg244
  z70 := Tryz.sizeOf244
  v70 := Tryz.zeroValue244
  t72 := Tryz.underlying246
  a72 := Tryz.isAgg246
  z72 := Tryz.sizeOf246
  v72 := Tryz.zeroValue246
  t75 := Tryz.underlying248
  a75 := Tryz.isAgg248
  z75 := Tryz.sizeOf248
  v75 := Tryz.zeroValue248
  t76 := Tryz.underlying249
  a76 := Tryz.isAgg249
  z76 := Tryz.sizeOf249
  v76 := Tryz.zeroValue249
  t109 := Tryz.underlying331
  a109 := Tryz.isAgg331
  z109 := Tryz.sizeOf331
  v109 := Tryz.zeroValue331
  t127 := Tryz.underlying281
  a127 := Tryz.isAgg281
  z127 := Tryz.sizeOf281
  v127 := Tryz.zeroValue281
  t146 := Tryz.underlying62
  a146 := Tryz.isAgg62
  z146 := Tryz.sizeOf62
  v146 := Tryz.zeroValue62
  t148 := Tryz.underlying344
  a148 := Tryz.isAgg344
  z148 := Tryz.sizeOf344
  v148 := Tryz.zeroValue344
  t164 := Tryz.underlying299
  a164 := Tryz.isAgg299
  z164 := Tryz.sizeOf299
  v164 := Tryz.zeroValue299 }
theorem Tryz.Builder_Extra_105 : Builder.Extra Tryz.prog Tryz.lays105_ren := {
  sizeBuilder := by kernel_rfl
  liesBuilder := by kernel_rfl
  t5 := Tryz.underlying5
  a5 := Tryz.isAgg5
  z5 := Tryz.sizeOf5
  v5 := Tryz.zeroValue5
  infoByte := by kernel_rfl
  cellsByte := by kernel_rfl
  sizeByte := by kernel_rfl
  neB5 := by decide }
open Go.RowKit Go.Lib in
theorem Tryz.strings_Repeat (s : ByteArray) (c : Nat) (w : World) (hc : c ≤ 9223372036854775807) (hlen : s.size * c ≤ 140737488355328) :
    Calls Tryz.prog 246 #[.string s, .int .i64 c] w fun e w' => e = .returned (.string ⟨(Lib.repeatL s.data.toList c).toArray⟩) ∧ Below w.heap.size w w' := Any.strings_Repeat Tryz.lays105 Tryz.Builder_Extra_105 s c w hc hlen
open Go.RowKit in
theorem Tryz.strings_TrimLeft_ascii (s cutset : ByteArray) (w : World) (hcs : cutset.size < 4294967281) (hascii : ∀ (j : Nat) b, cutset.data.toList[j]? = some b → b.toNat < 128) :
    Calls Tryz.prog 203 #[.string s, .string cutset] w fun e w' => e = .returned (.string ⟨(Lib.trimLeftS s.data.toList cutset.data.toList).toArray⟩) ∧ Below w.heap.size w w' :=
  Any.strings_TrimLeft_ascii Tryz.lays161 (fun w => by kernel_rfl) (by kernel_rfl) s cutset w hcs hascii
end Go.Proofs

namespace Go.Proofs.YteimilnecahifaaGreatDoor.Nm
open Go.Proofs.YteimilnecahifaaGreatDoor Go.Proofs.YteimilnecahifaaGreatDoor.Op
open Go.RowKit

theorem ba_emptyF {s : ByteArray} (h : s.data.toList ≠ []) : (s.toList.isEmpty) = false := by
  rw [ByteArray.toList_eq, List.isEmpty_eq_false_iff]; exact h
theorem ba_emptyT {s : ByteArray} (h : s.data.toList = []) : (s.toList.isEmpty) = true := by
  rw [ByteArray.toList_eq, h]; rfl
theorem cut_size (s : ByteArray) : (bz (cutE s.data.toList)).size ≤ s.size := by
  rw [bz_size]
  have h : (cutE s.data.toList).length ≤ s.data.toList.length := by
    unfold cutE
    rw [List.length_reverse]
    exact Nat.le_trans (List.dropWhile_sublist _).length_le (by simp)
  exact h
set_option maxRecDepth 100000 in
set_option maxHeartbeats 2000000 in
theorem base_c (s t : ByteArray) (w : World) (hs : s.size ≤ 2097152) : Calls Tryz.prog 8 #[.string s, .string t] w fun e w' => e = .returned (.string (bz (baseS s.data.toList t.data.toList))) ∧ Below w.heap.size w w' := by
  have htr := Tryz.strings_TrimRight_one s 47 (by decide) w (by omega)
  have e0 : (⟨(Lib.trimRightB s.data.toList 47).toArray⟩ : ByteArray) = bz (cutE s.data.toList) := rfl
  rw [e0] at htr
  clear e0
  have hcz := cut_size s
  by_cases hs0 : s.data.toList = []
  · have hem := ba_emptyT hs0
    have hr : baseS s.data.toList t.data.toList = [] := by rw [baseS, if_pos hs0]
    rw [hr]
    clear hs0 hr
    go_enter Tryz.func8, Tryz.ntmps8
    go_wp2_with (go_at_call 13; refine htr.mono ?_; rintro e w' ⟨rfl, rfl⟩)
    go_ret
    exact ⟨rfl, Below.refl _ _⟩
  have hem := ba_emptyF hs0
  by_cases hc0 : cutE s.data.toList = []
  · have hr : baseS s.data.toList t.data.toList = [47] := by rw [baseS, if_neg hs0, if_pos hc0]
    rw [hr]
    have hem2 : ((bz (cutE s.data.toList)).toList.isEmpty) = true := ba_emptyT hc0
    generalize bz (cutE s.data.toList) = P at htr hem2 hcz
    clear hs0 hr hc0
    go_enter Tryz.func8, Tryz.ntmps8
    go_wp2_with (go_at_call 13; refine htr.mono ?_; rintro e w' ⟨rfl, rfl⟩)
    go_ret
    exact ⟨rfl, Below.refl _ _⟩
  have hr : baseS s.data.toList t.data.toList = lessS (behindL (cutE s.data.toList)) t.data.toList := by rw [baseS, if_neg hs0, if_neg hc0]
  rw [hr]
  have hem2 : ((bz (cutE s.data.toList)).toList.isEmpty) = false := ba_emptyF hc0
  have hli := Tryz.strings_LastIndex_one (bz (cutE s.data.toList)) ⟨#[47]⟩ rfl (by omega) w
  have e1 : (((⟨#[47]⟩ : ByteArray)[0]'(by decide)).toNat : Int) = 47 := rfl
  rw [e1] at hli
  clear e1 hr
  obtain ⟨k, hk, hkl, hkd⟩ := base_drop (bz (cutE s.data.toList))
  rw [bz_list] at hkd
  generalize cutE s.data.toList = L at htr hem2 hli hk hkl hcz hkd
  have hk2 : Lib.lastIndexByte (bz L) 47 = (k : Int) - 1 := by omega
  rw [hk2] at hli
  rw [bz_size] at hkl hcz
  clear hk hk2 hs0 hc0
  have hdr := bz_drop L k
  rw [hkd] at hdr
  rw [bz_size] at hdr
  have hbl : (behindL L).length ≤ L.length := by rw [← hkd, List.length_drop]; omega
  clear hkd
  generalize behindL L = Z at hdr hbl ⊢
  have hts := Tryz.strings_TrimSuffix (bz Z) t w (by rw [bz_size]; omega)
  rw [bz_list] at hts
  have hsz := bz_size L
  by_cases hq : Z = t.data.toList
  · have hqe : ((bz Z).toList == t.toList) = true := by rw [hq]; exact beq_bz_yes rfl
    have hr : lessS Z t.data.toList = Z := by rw [← hq, less_same]
    rw [hr]
    clear hq hr hts
    go_enter Tryz.func8, Tryz.ntmps8
    go_wp2_with (first | (go_at_call 13; refine htr.mono ?_; rintro e w' ⟨rfl, rfl⟩) | (go_at_call 14; refine hli.mono ?_; rintro e w' ⟨rfl, rfl⟩))
    go_ret
    exact ⟨rfl, Below.refl _ _⟩
  · have hqe : ((bz Z).toList == t.toList) = false := beq_bz_no hq
    have hr := less_suffix Z t.data.toList hq
    rw [hr] at hts
    clear hq hr
    go_enter Tryz.func8, Tryz.ntmps8
    go_wp2_with (first | (go_at_call 13; refine htr.mono ?_; rintro e w' ⟨rfl, rfl⟩) | (go_at_call 14; refine hli.mono ?_; rintro e w' ⟨rfl, rfl⟩) | (go_at_call 16; refine hts.mono ?_; rintro e w' ⟨rfl, rfl⟩))
    go_ret
    exact ⟨rfl, Below.refl _ _⟩
/-- cmp.Or of a text and one that is not empty. -/
theorem ors_c (w : World) (b : Nat) (s : ByteArray) (h0 : w.cell? ⟨b, 0, none⟩ = some (.string s)) (h1 : w.cell? ⟨b, 1, none⟩ = some (.string ⟨#[47]⟩)) :
    Calls Tryz.prog 15 #[.slice (some ⟨b, 0, none⟩) 2 2] w fun e w' => e = .returned (.string (if s.data.toList = [] then ⟨#[47]⟩ else s)) ∧ w' = w := by
  by_cases hs0 : s.data.toList = []
  · rw [if_pos hs0]
    have hem := ba_emptyT hs0
    clear hs0
    go_enter Tryz.func15, Tryz.ntmps15
    go_wp2
    go_loopw [8] (fun v wr => (v = .int .i64 0 ∨ v = .int .i64 1) ∧ wr = w) (fun v _ => 2 - (intOf v).toNat)
    case atStart => exact ⟨.inl rfl, rfl⟩
    case round =>
      obtain ⟨rfl | rfl, rfl⟩ := hrel
      · go_wp2
        exact ⟨⟨.inr rfl, trivial⟩, by decide⟩
      · go_wp2
        go_ret
        exact ⟨rfl, rfl⟩
  · rw [if_neg hs0]
    have hem := ba_emptyF hs0
    clear hs0
    go_enter Tryz.func15, Tryz.ntmps15
    go_wp2
    go_loopw [8] (fun v wr => v = .int .i64 0 ∧ wr = w) (fun v _ => 2 - (intOf v).toNat)
    case atStart => exact ⟨rfl, rfl⟩
    case round =>
      obtain ⟨rfl, rfl⟩ := hrel
      go_wp2
      go_ret
      exact ⟨rfl, rfl⟩
theorem cell2_at (w : World) (x y : Value) (T : Nat) : (w.alloc (.cells #[x, y] T)).cell? ⟨w.heap.size, 0, none⟩ = some x ∧ (w.alloc (.cells #[x, y] T)).cell? ⟨w.heap.size, 1, none⟩ = some y :=
  ⟨World.cell?_alloc_new w #[x, y] T 0, World.cell?_alloc_new w #[x, y] T 1⟩
set_option maxRecDepth 100000 in
set_option maxHeartbeats 2000000 in
theorem dir_c (s : ByteArray) (w : World) (hs : s.size ≤ 2097152) : Calls Tryz.prog 7 #[.string s] w fun e w' => e = .returned (.string (bz (dirS s.data.toList))) ∧ Below w.heap.size w w' := by
  have htr := Tryz.strings_TrimRight_one s 47 (by decide) w (by omega)
  have e0 : (⟨(Lib.trimRightB s.data.toList 47).toArray⟩ : ByteArray) = bz (cutE s.data.toList) := rfl
  rw [e0] at htr
  clear e0
  have hcz := cut_size s
  have hli := Tryz.strings_LastIndex_one (bz (cutE s.data.toList)) ⟨#[47]⟩ rfl (by omega) w
  have e1 : (((⟨#[47]⟩ : ByteArray)[0]'(by decide)).toNat : Int) = 47 := rfl
  rw [e1] at hli
  clear e1
  by_cases hs0 : s.data.toList = []
  · have hem := ba_emptyT hs0
    have hr : dirS s.data.toList = [46] := by rw [dirS, if_pos hs0]
    rw [hr]
    clear hs0 hr
    generalize bz (cutE s.data.toList) = P at htr hli hcz
    go_enter Tryz.func7, Tryz.ntmps7
    go_wp2_with (first | (go_at_call 13; refine htr.mono ?_; rintro e w' ⟨rfl, rfl⟩) | (go_at_call 14; refine hli.mono ?_; rintro e w' ⟨rfl, rfl⟩))
    go_ret
    exact ⟨rfl, Below.refl _ _⟩
  have hem := ba_emptyF hs0
  by_cases hc0 : cutE s.data.toList = []
  · have hr : dirS s.data.toList = [47] := by rw [dirS, if_neg hs0, if_pos hc0]
    rw [hr]
    have hem2 : ((bz (cutE s.data.toList)).toList.isEmpty) = true := ba_emptyT hc0
    generalize bz (cutE s.data.toList) = P at htr hem2 hcz hli
    clear hs0 hr hc0
    go_enter Tryz.func7, Tryz.ntmps7
    go_wp2_with (first | (go_at_call 13; refine htr.mono ?_; rintro e w' ⟨rfl, rfl⟩) | (go_at_call 14; refine hli.mono ?_; rintro e w' ⟨rfl, rfl⟩))
    go_ret
    exact ⟨rfl, Below.refl _ _⟩
  have hem2 : ((bz (cutE s.data.toList)).toList.isEmpty) = false := ba_emptyF hc0
  rcases last_stroke (bz (cutE s.data.toList)) with ⟨hk, hn⟩ | ⟨i, hk, hi, he, hn⟩
  · rw [bz_list] at hn
    have hr : dirS s.data.toList = [46] := by
      rw [dirS, if_neg hs0, if_neg hc0, aheadL_none _ hn]
    rw [hr]
    rw [hk] at hli
    clear hr hk hn hs0 hc0
    generalize bz (cutE s.data.toList) = P at htr hem2 hcz hli
    go_enter Tryz.func7, Tryz.ntmps7
    go_wp2_with (first | (go_at_call 13; refine htr.mono ?_; rintro e w' ⟨rfl, rfl⟩) | (go_at_call 14; refine hli.mono ?_; rintro e w' ⟨rfl, rfl⟩))
    go_ret
    exact ⟨rfl, Below.refl _ _⟩
  · rw [bz_list] at hi he hn
    have hr : dirS s.data.toList = if cutE ((cutE s.data.toList).take i) = [] then [47] else cutE ((cutE s.data.toList).take i) := by
      rw [dirS, if_neg hs0, if_neg hc0]
      conv => lhs; rw [he, aheadL_at _ _ hn]
    rw [hr]
    rw [hk] at hli
    clear hr hk hn hs0 hc0 he
    generalize cutE s.data.toList = L at htr hem2 hcz hli hi ⊢
    rw [bz_size] at hcz
    have htr2 := Tryz.strings_TrimRight_one (bz (L.take i)) 47 (by decide) w (by rw [bz_size, List.length_take]; omega)
    have e0 : (⟨(Lib.trimRightB (bz (L.take i)).data.toList 47).toArray⟩ : ByteArray) = bz (cutE (L.take i)) := rfl
    rw [e0] at htr2
    have hsz := bz_size L
    have htk := bz_take L i
    obtain ⟨q0, q1⟩ := cell2_at w (.string (bz (cutE (L.take i)))) (.string ⟨#[47]⟩) 9
    have hor := ors_c _ _ _ q0 q1
    have hB : Below w.heap.size w (w.alloc (.cells #[.string (bz (cutE (L.take i))), .string ⟨#[47]⟩] 9)) := (Below.refl _ w).alloc (Nat.le_refl _) _
    have hfin : (if (bz (cutE (L.take i))).data.toList = [] then (⟨#[47]⟩ : ByteArray) else bz (cutE (L.take i))) = bz (if cutE (L.take i) = [] then [47] else cutE (L.take i)) := by
      rw [bz_list]
      split <;> rfl
    rw [hfin] at hor
    clear e0 q0 q1 hfin
    generalize (if cutE (L.take i) = [] then [47] else cutE (L.take i)) = R at hor ⊢
    generalize bz (cutE (L.take i)) = C at htr2 hor hB
    have HB := Lib.hid hB
    clear hB
    go_enter Tryz.func7, Tryz.ntmps7
    go_wp2_with (first | (go_at_call 13; first | (refine htr.mono ?_; rintro e w' ⟨rfl, hw'⟩; rw [hw']; clear hw' htr) | (refine htr2.mono ?_; rintro e w' ⟨rfl, hw'⟩; rw [hw']; clear hw' htr2)) | (go_at_call 14; refine hli.mono ?_; rintro e w' ⟨rfl, hw'⟩; rw [hw']; clear hw') | (go_at_call 15; refine hor.mono ?_; rintro e w' ⟨rfl, hw'⟩; rw [hw']; clear hw'))
    go_ret
    exact ⟨rfl, HB.out⟩
end Go.Proofs.YteimilnecahifaaGreatDoor.Nm
