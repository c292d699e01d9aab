/- What keeps a transfer from being attempted. -/
import Derived.Test.YteimilnecahifaaGreatDoorKBefall
import Derived.Shelf.Strings.Builder1
import Derived.Shelf.Strings.Builder2
import Derived.Shelf.Strings.OnBuilder
import Derived.Shelf.Strings.Trim
import Derived.Shelf.Small.Utf8
import Derived.Shelf.Small.Strs
import Derived.Shelf.Small.Wraps
import Derived.Shelf.Strings.BuilderF
import Derived.Shelf.Strings.Builder2Cap
import Derived.Shelf.Strconv.Itoa0
import Derived.Shelf.Strconv.Itoa1
import Derived.Shelf.LaysM
import Derived.Shelf.Strconv.Itoa2
import Derived.Shelf.Strconv.Itoa3
import Derived.Shelf.Strconv.Itoa4
import Derived.Shelf.Strconv.Clone
import Derived.Shelf.Strconv.SyntaxError
import Derived.Shelf.Strings.Search1
import Derived.Shelf.Strings.Search2
import Derived.Shelf.Strings.Search3
import Derived.Shelf.Strings.Cut
import Derived.Shelf.Strings.Count
import Derived.Shelf.Strings.Shaped
import Derived.Shelf.Strings.LastIndex
import Derived.Shelf.Strings.Prefix
import Derived.Shelf.Unicode.Latin
import Derived.Shelf.Strings.Runes
import Derived.Shelf.Strings.IndexAny
import Derived.Shelf.Strings.AsciiSet
import Derived.Shelf.Strings.IndexAnyAll
import Derived.Shelf.Bits.Mul64
import Derived.Shelf.Strings.Repeat
import Derived.Shelf.Unicode.DecodeSlow
import Derived.Shelf.Unicode.CaseLookup
import Derived.Shelf.Unicode.CaseConvert
import Derived.Shelf.Unicode.CaseTo
import Derived.Shelf.Unicode.CaseLaid
import Derived.Shelf.Slices.Clone
import Derived.Shelf.Bytes.SlClone
import Derived.Shelf.SlicesE.Clone
import Derived.Test.YteimilnecahifaaGreatDoorProg
import Derived.Maps.OwnOps
import Derived.BigQuiet
import Derived.BigRegion
import Derived.Deep.RegionWith
import Derived.Deep.QuietTactic
import Derived.Deep.RegionHeld
import Derived.LaidEqlPtr
import Derived.Laws.AppendOwn
import Derived.OwnWalk
import Derived.WalkKit
import Derived.Laws.CopyRow
namespace Go.Proofs.YteimilnecahifaaGreatDoor
open Go.RowKit Go.Maps

end Go.Proofs.YteimilnecahifaaGreatDoor

namespace Go.Proofs
open Go.Shelf
def Tryz.lays162_ren : Go.Shelf.Ren := ⟨fun | 162 => 13 | 232 => 21 | 227 => 22 | 234 => 23 | 236 => 24 | 228 => 31 | 271 => 32 | 151 => 33 | 120 => 56 | 197 => 57 | 152 => 58 | 260 => 90 | 137 => 91 | 119 => 92 | 224 => 93 | 225 => 94 | 217 => 122 | 266 => 157 | n => n, fun | 9 => 9 | 4 => 4 | 3 => 3 | 5 => 5 | 117 => 50 | 116 => 49 | 0 => 0 | 124 => 53 | 21 => 21 | 105 => 58 | 46 => 105 | 119 => 207 | 139 => 210 | 138 => 209 | n => n, fun | 3 => 2 | 4 => 3 | n => n⟩
theorem Tryz.lays162 : Go.Proofs.Lays.n162 Tryz.prog Tryz.lays162_ren := {
  mixed := by kernel_rfl
  f119 := Tryz.func92.trans (congrArg some (by kernel_rfl))
  f120 := Tryz.func56.trans (congrArg some (by kernel_rfl))
  f137 := Tryz.func91.trans (congrArg some (by kernel_rfl))
  f151 := Tryz.func33.trans (congrArg some (by kernel_rfl))
  f152 := Tryz.func58.trans (congrArg some (by kernel_rfl))
  f162 := Tryz.func13.trans (congrArg some (by kernel_rfl))
  f197 := Tryz.func57.trans (congrArg some (by kernel_rfl))
  f217 := Tryz.func122.trans (congrArg some (by kernel_rfl))
  f224 := Tryz.func93.trans (congrArg some (by kernel_rfl))
  f225 := Tryz.func94.trans (congrArg some (by kernel_rfl))
  f227 := Tryz.func22.trans (congrArg some (by kernel_rfl))
  f228 := Tryz.func31.trans (congrArg some (by kernel_rfl))
  f232 := Tryz.func21.trans (congrArg some (by kernel_rfl))
  f234 := Tryz.func23.trans (congrArg some (by kernel_rfl))
  f236 := Tryz.func24.trans (congrArg some (by kernel_rfl))
  f260 := Tryz.func90.trans (congrArg some (by kernel_rfl))
  f266 := Tryz.func157.trans (congrArg some (by kernel_rfl))
  f271 := Tryz.func32.trans (congrArg some (by kernel_rfl))
  t0 := Tryz.underlying0
  a0 := Tryz.isAgg0
  z0 := Tryz.sizeOf0
  v0 := Tryz.zeroValue0
  t3 := Tryz.underlying3
  a3 := Tryz.isAgg3
  z3 := Tryz.sizeOf3
  v3 := Tryz.zeroValue3
  t4 := Tryz.underlying4
  a4 := Tryz.isAgg4
  z4 := Tryz.sizeOf4
  v4 := Tryz.zeroValue4
  t5 := Tryz.underlying5
  a5 := Tryz.isAgg5
  z5 := Tryz.sizeOf5
  v5 := Tryz.zeroValue5
  t9 := Tryz.underlying9
  a9 := Tryz.isAgg9
  z9 := Tryz.sizeOf9
  v9 := Tryz.zeroValue9
  t21 := Tryz.underlying21
  a21 := Tryz.isAgg21
  z21 := Tryz.sizeOf21
  v21 := Tryz.zeroValue21
  t46 := Tryz.underlying105
  a46 := Tryz.isAgg105
  z46 := Tryz.sizeOf105
  v46 := Tryz.zeroValue105
  t105 := Tryz.underlying58
  a105 := Tryz.isAgg58
  z105 := Tryz.sizeOf58
  v105 := Tryz.zeroValue58
  t116 := Tryz.underlying49
  a116 := Tryz.isAgg49
  z116 := Tryz.sizeOf49
  t117 := Tryz.underlying50
  a117 := Tryz.isAgg50
  z117 := Tryz.sizeOf50
  v117 := Tryz.zeroValue50
  t119 := Tryz.underlying207
  a119 := Tryz.isAgg207
  z119 := Tryz.sizeOf207
  t124 := Tryz.underlying53
  a124 := Tryz.isAgg53
  z124 := Tryz.sizeOf53
  v124 := Tryz.zeroValue53
  t138 := Tryz.underlying209
  a138 := Tryz.isAgg209
  z138 := Tryz.sizeOf209
  v138 := Tryz.zeroValue209
  t139 := Tryz.underlying210
  a139 := Tryz.isAgg210
  z139 := Tryz.sizeOf210
  v139 := Tryz.zeroValue210
  g3 := by kernel_rfl
  g4 := by kernel_rfl }
open Go.RowKit in
theorem Tryz.strings_TrimRight_one (s : ByteArray) (c : UInt8) (hc : c.toNat < 128) (w : World) (hs : s.size ≤ 9223372036854775807) :
    Calls Tryz.prog 13 #[.string s, .string ⟨#[c]⟩] w fun e w' => e = .returned (.string ⟨(Lib.trimRightB s.data.toList c).toArray⟩) ∧ w' = w := Any.strings_TrimRight_one Tryz.lays162 s c hc w hs
def Tryz.lays137_ren : Go.Shelf.Ren := ⟨fun | 137 => 91 | 217 => 122 | 266 => 157 | n => n, fun | 9 => 9 | 5 => 5 | 3 => 3 | n => n, fun | n => n⟩
theorem Tryz.lays137 : Go.Proofs.Lays.n137 Tryz.prog Tryz.lays137_ren := {
  mixed := by kernel_rfl
  f137 := Tryz.func91.trans (congrArg some (by kernel_rfl))
  f217 := Tryz.func122.trans (congrArg some (by kernel_rfl))
  f266 := Tryz.func157.trans (congrArg some (by kernel_rfl))
  t3 := Tryz.underlying3
  a3 := Tryz.isAgg3
  z3 := Tryz.sizeOf3
  v3 := Tryz.zeroValue3
  t5 := Tryz.underlying5
  a5 := Tryz.isAgg5
  z5 := Tryz.sizeOf5
  v5 := Tryz.zeroValue5
  t9 := Tryz.underlying9
  a9 := Tryz.isAgg9
  z9 := Tryz.sizeOf9
  v9 := Tryz.zeroValue9 }
open Go.RowKit in
theorem Tryz.strings_IndexByte (s : ByteArray) (c : Int) (w : World) :
    Calls Tryz.prog 91 #[.string s, .int .u8 c] w fun e w' => e = .returned (.int .i64 (Lib.indexByte s.data.toList c.toNat.toUInt8)) ∧ w' = w := Any.strings_IndexByte Tryz.lays137 s c w
def Tryz.laysM316_ren : Go.Shelf.Ren := ⟨fun | 316 => 197 | n => n, fun | 9 => 9 | 3 => 3 | 4 => 4 | 37 => 27 | 0 => 0 | 127 => 281 | 5 => 5 | n => n, fun | n => n⟩
theorem Tryz.laysM316 : Go.Proofs.LaysM.n316 Tryz.prog Tryz.laysM316_ren := {
  mixed := by kernel_rfl
  f316 := Tryz.func197.trans (congrArg some (by kernel_rfl))
  t0 := Tryz.underlying0
  a0 := Tryz.isAgg0
  z0 := Tryz.sizeOf0
  v0 := Tryz.zeroValue0
  t3 := Tryz.underlying3
  a3 := Tryz.isAgg3
  z3 := Tryz.sizeOf3
  v3 := Tryz.zeroValue3
  t4 := Tryz.underlying4
  a4 := Tryz.isAgg4
  z4 := Tryz.sizeOf4
  v4 := Tryz.zeroValue4
  t9 := Tryz.underlying9
  a9 := Tryz.isAgg9
  z9 := Tryz.sizeOf9
  v9 := Tryz.zeroValue9
  t37 := Tryz.underlying27
  a37 := Tryz.isAgg27
  z37 := Tryz.sizeOf27
  v37 := Tryz.zeroValue27
  t127 := Tryz.underlying281
  a127 := Tryz.isAgg281
  z127 := Tryz.sizeOf281
  v127 := Tryz.zeroValue281
  t5 := Tryz.underlying5
  a5 := Tryz.isAgg5
  z5 := Tryz.sizeOf5
  v5 := Tryz.zeroValue5
  i0 := by kernel_rfl
  i3 := by kernel_rfl
  i4 := by kernel_rfl
  i5 := by kernel_rfl
  i9 := by kernel_rfl
  i37 := by kernel_rfl
  i127 := by kernel_rfl }
open Go.RowKit in
theorem Tryz.stringslite_Clone (s : ByteArray) (w : World) (hlim : s.size ≤ 281474976710656) :
    Calls Tryz.prog 197 #[.string s] w fun e w' => e = .returned (.string s) ∧ Below w.heap.size w w' := Any.stringslite_Clone Tryz.laysM316 s w hlim
def Tryz.lays145_ren : Go.Shelf.Ren := ⟨fun | 145 => 226 | 220 => 245 | 219 => 243 | 217 => 122 | 225 => 94 | 224 => 93 | 267 => 260 | 266 => 157 | 314 => 273 | n => n, fun | 9 => 9 | 4 => 4 | 59 => 311 | 3 => 3 | 5 => 5 | 46 => 105 | 146 => 62 | 51 => 61 | n => n, fun | 1 => 0 | n => n⟩
theorem Tryz.lays145 : Go.Proofs.Lays.n145 Tryz.prog Tryz.lays145_ren := {
  mixed := by kernel_rfl
  f145 := Tryz.func226.trans (congrArg some (by kernel_rfl))
  f217 := Tryz.func122.trans (congrArg some (by kernel_rfl))
  f219 := Tryz.func243.trans (congrArg some (by kernel_rfl))
  f220 := Tryz.func245.trans (congrArg some (by kernel_rfl))
  f224 := Tryz.func93.trans (congrArg some (by kernel_rfl))
  f225 := Tryz.func94.trans (congrArg some (by kernel_rfl))
  f266 := Tryz.func157.trans (congrArg some (by kernel_rfl))
  f267 := Tryz.func260.trans (congrArg some (by kernel_rfl))
  f314 := Tryz.func273.trans (congrArg some (by kernel_rfl))
  t3 := Tryz.underlying3
  a3 := Tryz.isAgg3
  z3 := Tryz.sizeOf3
  v3 := Tryz.zeroValue3
  t4 := Tryz.underlying4
  a4 := Tryz.isAgg4
  z4 := Tryz.sizeOf4
  v4 := Tryz.zeroValue4
  t5 := Tryz.underlying5
  a5 := Tryz.isAgg5
  z5 := Tryz.sizeOf5
  v5 := Tryz.zeroValue5
  t9 := Tryz.underlying9
  a9 := Tryz.isAgg9
  z9 := Tryz.sizeOf9
  v9 := Tryz.zeroValue9
  t46 := Tryz.underlying105
  a46 := Tryz.isAgg105
  z46 := Tryz.sizeOf105
  v46 := Tryz.zeroValue105
  t51 := Tryz.underlying61
  a51 := Tryz.isAgg61
  z51 := Tryz.sizeOf61
  v51 := Tryz.zeroValue61
  t59 := Tryz.underlying311
  a59 := Tryz.isAgg311
  z59 := Tryz.sizeOf311
  v59 := Tryz.zeroValue311
  t146 := Tryz.underlying62
  a146 := Tryz.isAgg62
  z146 := Tryz.sizeOf62
  v146 := Tryz.zeroValue62
  g1 := by kernel_rfl }
open Go.RowKit Go.Lib in
theorem Tryz.strings_Cut (s sep : ByteArray) (m : Int) (w : World) (hs : s.size < 4294967281) (hm : w.cell? ⟨0, 0, none⟩ = some (.int .i64 m)) :
    Calls Tryz.prog 226 #[.string s, .string sep] w fun e w' => e = .returned (.tuple #[.string ⟨(Lib.cut s.data.toList sep.data.toList).1.toArray⟩, .string ⟨(Lib.cut s.data.toList sep.data.toList).2.1.toArray⟩, .bool (Lib.cut s.data.toList sep.data.toList).2.2]) ∧ ∃ n, w' = w.drewN n := Any.strings_Cut Tryz.lays145 s sep m w hs hm
def Tryz.lays99_ren : Go.Shelf.Ren := ⟨fun | 99 => 152 | 206 => 184 | n => n, fun | 9 => 9 | 4 => 4 | 3 => 3 | n => n, fun | n => n⟩
theorem Tryz.lays99 : Go.Proofs.Lays.n99 Tryz.prog Tryz.lays99_ren := {
  mixed := by kernel_rfl
  f99 := Tryz.func152.trans (congrArg some (by kernel_rfl))
  f206 := Tryz.func184.trans (congrArg some (by kernel_rfl))
  t3 := Tryz.underlying3
  a3 := Tryz.isAgg3
  z3 := Tryz.sizeOf3
  v3 := Tryz.zeroValue3
  t4 := Tryz.underlying4
  a4 := Tryz.isAgg4
  z4 := Tryz.sizeOf4
  v4 := Tryz.zeroValue4
  t9 := Tryz.underlying9
  a9 := Tryz.isAgg9
  z9 := Tryz.sizeOf9
  v9 := Tryz.zeroValue9 }
open Go.RowKit Go.Lib in
theorem Tryz.strings_HasPrefix (s p : ByteArray) (w : World) :
    Calls Tryz.prog 152 #[.string s, .string p] w fun e w' => e = .returned (.bool (Lib.hasPrefix s.data.toList p.data.toList)) ∧ w' = w := Any.strings_HasPrefix Tryz.lays99 s p w
def Tryz.lays100_ren : Go.Shelf.Ren := ⟨fun | 100 => 198 | 207 => 35 | n => n, fun | 9 => 9 | 4 => 4 | 3 => 3 | n => n, fun | n => n⟩
theorem Tryz.lays100 : Go.Proofs.Lays.n100 Tryz.prog Tryz.lays100_ren := {
  mixed := by kernel_rfl
  f100 := Tryz.func198.trans (congrArg some (by kernel_rfl))
  f207 := Tryz.func35.trans (congrArg some (by kernel_rfl))
  t3 := Tryz.underlying3
  a3 := Tryz.isAgg3
  z3 := Tryz.sizeOf3
  v3 := Tryz.zeroValue3
  t4 := Tryz.underlying4
  a4 := Tryz.isAgg4
  z4 := Tryz.sizeOf4
  v4 := Tryz.zeroValue4
  t9 := Tryz.underlying9
  a9 := Tryz.isAgg9
  z9 := Tryz.sizeOf9
  v9 := Tryz.zeroValue9 }
open Go.RowKit Go.Lib in
theorem Tryz.strings_HasSuffix (s p : ByteArray) (w : World) (hs : s.size ≤ 9223372036854775807) :
    Calls Tryz.prog 198 #[.string s, .string p] w fun e w' => e = .returned (.bool (Lib.hasSuffix s.data.toList p.data.toList)) ∧ w' = w := Any.strings_HasSuffix Tryz.lays100 s p w hs
def Tryz.lays152_ren : Go.Shelf.Ren := ⟨fun | 152 => 58 | 137 => 91 | 119 => 92 | 224 => 93 | 225 => 94 | 217 => 122 | 266 => 157 | n => n, fun | 9 => 9 | 21 => 21 | 3 => 3 | 4 => 4 | 5 => 5 | 0 => 0 | 46 => 105 | n => n, fun | n => n⟩
theorem Tryz.lays152 : Go.Proofs.Lays.n152 Tryz.prog Tryz.lays152_ren := {
  mixed := by kernel_rfl
  f119 := Tryz.func92.trans (congrArg some (by kernel_rfl))
  f137 := Tryz.func91.trans (congrArg some (by kernel_rfl))
  f152 := Tryz.func58.trans (congrArg some (by kernel_rfl))
  f217 := Tryz.func122.trans (congrArg some (by kernel_rfl))
  f224 := Tryz.func93.trans (congrArg some (by kernel_rfl))
  f225 := Tryz.func94.trans (congrArg some (by kernel_rfl))
  f266 := Tryz.func157.trans (congrArg some (by kernel_rfl))
  t0 := Tryz.underlying0
  a0 := Tryz.isAgg0
  z0 := Tryz.sizeOf0
  v0 := Tryz.zeroValue0
  t3 := Tryz.underlying3
  a3 := Tryz.isAgg3
  z3 := Tryz.sizeOf3
  v3 := Tryz.zeroValue3
  t4 := Tryz.underlying4
  a4 := Tryz.isAgg4
  z4 := Tryz.sizeOf4
  v4 := Tryz.zeroValue4
  t5 := Tryz.underlying5
  a5 := Tryz.isAgg5
  z5 := Tryz.sizeOf5
  v5 := Tryz.zeroValue5
  t9 := Tryz.underlying9
  a9 := Tryz.isAgg9
  z9 := Tryz.sizeOf9
  v9 := Tryz.zeroValue9
  t21 := Tryz.underlying21
  a21 := Tryz.isAgg21
  z21 := Tryz.sizeOf21
  v21 := Tryz.zeroValue21
  t46 := Tryz.underlying105
  a46 := Tryz.isAgg105
  z46 := Tryz.sizeOf105
  v46 := Tryz.zeroValue105 }
open Go.RowKit Go.Lib in
theorem Tryz.strings_IndexRune_ascii (s : ByteArray) (r : Int) (w : World) (h0 : 0 ≤ r) (h1 : r < 128) :
    Calls Tryz.prog 58 #[.string s, .int .i32 r] w fun e w' => e = .returned (.int .i64 (Lib.indexByte s.data.toList r.toNat.toUInt8)) ∧ w' = w := Any.strings_IndexRune_ascii Tryz.lays152 s r w h0 h1
def Tryz.lays226_ren : Go.Shelf.Ren := ⟨fun | 226 => 244 | n => n, fun | 3 => 3 | 4 => 4 | n => n, fun | n => n⟩
theorem Tryz.lays226 : Go.Proofs.Lays.n226 Tryz.prog Tryz.lays226_ren := {
  mixed := by kernel_rfl
  f226 := Tryz.func244.trans (congrArg some (by kernel_rfl))
  t3 := Tryz.underlying3
  a3 := Tryz.isAgg3
  z3 := Tryz.sizeOf3
  v3 := Tryz.zeroValue3
  t4 := Tryz.underlying4
  a4 := Tryz.isAgg4
  z4 := Tryz.sizeOf4
  v4 := Tryz.zeroValue4 }
open Go.RowKit Go.Lib in
theorem Tryz.strings_shouldUseASCIISet (n : Int) (w : World) :
    Calls Tryz.prog 244 #[.int .i64 n] w fun e w' => e = .returned (.bool (decide (8 < n))) ∧ w' = w := Any.strings_shouldUseASCIISet Tryz.lays226 n w
def Tryz.lays153_ren : Go.Shelf.Ren := ⟨fun | 153 => 223 | 152 => 58 | 226 => 244 | 227 => 22 | 228 => 31 | 137 => 91 | 119 => 92 | 224 => 93 | 225 => 94 | 217 => 122 | 266 => 157 | n => n, fun | 9 => 9 | 3 => 3 | 4 => 4 | 5 => 5 | 21 => 21 | 117 => 50 | 116 => 49 | 0 => 0 | 46 => 105 | 124 => 53 | n => n, fun | n => n⟩
theorem Tryz.lays153 : Go.Proofs.Lays.n153 Tryz.prog Tryz.lays153_ren := {
  mixed := by kernel_rfl
  f119 := Tryz.func92.trans (congrArg some (by kernel_rfl))
  f137 := Tryz.func91.trans (congrArg some (by kernel_rfl))
  f152 := Tryz.func58.trans (congrArg some (by kernel_rfl))
  f153 := Tryz.func223.trans (congrArg some (by kernel_rfl))
  f217 := Tryz.func122.trans (congrArg some (by kernel_rfl))
  f224 := Tryz.func93.trans (congrArg some (by kernel_rfl))
  f225 := Tryz.func94.trans (congrArg some (by kernel_rfl))
  f226 := Tryz.func244.trans (congrArg some (by kernel_rfl))
  f227 := Tryz.func22.trans (congrArg some (by kernel_rfl))
  f228 := Tryz.func31.trans (congrArg some (by kernel_rfl))
  f266 := Tryz.func157.trans (congrArg some (by kernel_rfl))
  t0 := Tryz.underlying0
  a0 := Tryz.isAgg0
  z0 := Tryz.sizeOf0
  v0 := Tryz.zeroValue0
  t3 := Tryz.underlying3
  a3 := Tryz.isAgg3
  z3 := Tryz.sizeOf3
  v3 := Tryz.zeroValue3
  t4 := Tryz.underlying4
  a4 := Tryz.isAgg4
  z4 := Tryz.sizeOf4
  v4 := Tryz.zeroValue4
  t5 := Tryz.underlying5
  a5 := Tryz.isAgg5
  z5 := Tryz.sizeOf5
  v5 := Tryz.zeroValue5
  t9 := Tryz.underlying9
  a9 := Tryz.isAgg9
  z9 := Tryz.sizeOf9
  v9 := Tryz.zeroValue9
  t21 := Tryz.underlying21
  a21 := Tryz.isAgg21
  z21 := Tryz.sizeOf21
  v21 := Tryz.zeroValue21
  t46 := Tryz.underlying105
  a46 := Tryz.isAgg105
  z46 := Tryz.sizeOf105
  v46 := Tryz.zeroValue105
  t116 := Tryz.underlying49
  a116 := Tryz.isAgg49
  z116 := Tryz.sizeOf49
  t117 := Tryz.underlying50
  a117 := Tryz.isAgg50
  z117 := Tryz.sizeOf50
  v117 := Tryz.zeroValue50
  t124 := Tryz.underlying53
  a124 := Tryz.isAgg53
  z124 := Tryz.sizeOf53
  v124 := Tryz.zeroValue53 }
open Go.RowKit Go.Lib in
theorem Tryz.strings_IndexAny_long (hv116 : ∀ w, (zeroValue 49).run Tryz.prog w = .ok (.agg (Array.replicate 256 (.bool false))) w) (s chars : ByteArray) (w : World) (h2 : 2 ≤ chars.size) (h8 : 8 < s.size) (hs : s.size < 4294967281) (hcs : chars.size < 4294967281) (hascii : ∀ (j : Nat) b, chars.data.toList[j]? = some b → b.toNat < 128) :
    Calls Tryz.prog 223 #[.string s, .string chars] w fun e w' => e = .returned (.int .i64 (Lib.indexAny s.data.toList chars.data.toList)) ∧ w' = ((w.alloc (.cells (Lib.setCells chars.data.toList) 49)).alloc (.cells (Lib.setCells chars.data.toList) 49)) := Any.strings_IndexAny_long Tryz.lays153 hv116 (by kernel_rfl) s chars w h2 h8 hs hcs hascii
def Tryz.laysSlK4_ren : Go.Shelf.Ren := ⟨fun | 4 => 71 | n => n, fun | 22 => 27 | 4 => 4 | 5 => 5 | n => n, fun | n => n⟩
theorem Tryz.laysSlK4 : Go.Proofs.SlLaysK.n4 Tryz.prog Tryz.laysSlK4_ren := {
  mixed := by kernel_rfl
  f4 := Tryz.func71.trans (congrArg some (by kernel_rfl))
  t4 := Tryz.underlying4
  a4 := Tryz.isAgg4
  z4 := Tryz.sizeOf4
  v4 := Tryz.zeroValue4
  t22 := Tryz.underlying27
  a22 := Tryz.isAgg27
  z22 := Tryz.sizeOf27
  v22 := Tryz.zeroValue27
  t5 := Tryz.underlying5
  i5 := by kernel_rfl }
open Go.RowKit Go.Lib in
theorem Tryz.bytes_Clone_at (a : Addr) (n c : Nat) (xs : List Int) (w : World) (hx : xs.length = n) (hbig : n ≤ 140737488355328) (hc : ∀ i, i < n → w.cell? (a.add i) = some (.int .u8 (xs.getD i 0))) :
    Calls Tryz.prog 71 #[.slice (some a) n c] w fun e w' => ∃ v', e = .returned v' ∧ w'.ownsRow w.heap.size 5 1 v' n (xs.map (Value.int .u8)) ∧ v' ≠ .slice none 0 0 ∧ Below w.heap.size w w' := Any.bytes_Clone_at Tryz.laysSlK4 a n c xs w hx hbig hc
open Go.RowKit Go.Lib in
theorem Tryz.bytes_Clone_nil (n c : Nat) (w : World) :
    Calls Tryz.prog 71 #[.slice none n c] w fun e w' => e = .returned (.slice none 0 0) ∧ w' = w := Any.bytes_Clone_nil Tryz.laysSlK4 n c w
def Tryz.laysSlE041_f43_ren : Go.Shelf.Ren := ⟨fun | 41 => 43 | n => n, fun | 22 => 44 | 23 => 3 | 4 => 4 | n => n, fun | n => n⟩
theorem Tryz.laysSlE041_f43 : Go.Proofs.SlLaysE0.n41 Tryz.prog Tryz.laysSlE041_f43_ren := {
  mixed := by kernel_rfl
  f41 := ⟨Tryz.f43.name, by decide, Tryz.func43.trans (congrArg some (by kernel_rfl))⟩
  t4 := Tryz.underlying4
  a4 := Tryz.isAgg4
  z4 := Tryz.sizeOf4
  v4 := Tryz.zeroValue4
  t22 := Tryz.underlying44
  a22 := Tryz.isAgg44
  z22 := Tryz.sizeOf44
  v22 := Tryz.zeroValue44 }
def Tryz.laysSlE041_f69_ren : Go.Shelf.Ren := ⟨fun | 41 => 69 | n => n, fun | 22 => 32 | 23 => 9 | 4 => 4 | n => n, fun | n => n⟩
theorem Tryz.laysSlE041_f69 : Go.Proofs.SlLaysE0.n41 Tryz.prog Tryz.laysSlE041_f69_ren := {
  mixed := by kernel_rfl
  f41 := ⟨Tryz.f69.name, by decide, Tryz.func69.trans (congrArg some (by kernel_rfl))⟩
  t4 := Tryz.underlying4
  a4 := Tryz.isAgg4
  z4 := Tryz.sizeOf4
  v4 := Tryz.zeroValue4
  t22 := Tryz.underlying32
  a22 := Tryz.isAgg32
  z22 := Tryz.sizeOf32
  v22 := Tryz.zeroValue32 }
open Go.RowKit Go.Lib in
theorem Tryz.slices_Clone_f69 (i0 : TypeInfo) (z : Value) (size bytes : Nat) (hi : Tryz.prog.info? 9 = some i0) (hz0 : i0.zero = some z) (hz1 : i0.size = size) (hz2 : i0.bytes = bytes) (hzs : z.cells.size = size) (hsz : 0 < size) (z23 : ∀ w, (Go.sizeOf 9).run Tryz.prog w = .ok size w) (b off n c : Nat) (news : List Value) (w : World) (hl : news.length = n * size) (hn : n ≤ maxLen) (hbig : n * bytes ≤ 140737488355328) (hc : ∀ j u, news[j]? = some u → w.cell? ⟨b, off + j, none⟩ = some u) (h1 : ∀ u ∈ news, u.oneCell' = true) :
    Calls Tryz.prog 69 #[.slice (some ⟨b, off, none⟩) n c] w fun e w' => ∃ v', e = .returned v' ∧ w'.ownsRow w.heap.size 9 size v' n news ∧ v' ≠ .slice none 0 0 ∧ Below w.heap.size w w' := AnyE.slices_Clone Tryz.laysSlE041_f69 i0 z size bytes hi hz0 hz1 hz2 hzs hsz z23 b off n c news w hl hn hbig hc h1
open Go.RowKit Go.Lib in
theorem Tryz.slices_Clone_nil_f43 (n c : Nat) (w : World) :
    Calls Tryz.prog 43 #[.slice none n c] w fun e w' => e = .returned (.slice none 0 0) ∧ w' = w := AnyE.slices_Clone_nil Tryz.laysSlE041_f43 n c w
open Go.RowKit Go.Lib in
theorem Tryz.slices_Clone_nil_f69 (n c : Nat) (w : World) :
    Calls Tryz.prog 69 #[.slice none n c] w fun e w' => e = .returned (.slice none 0 0) ∧ w' = w := AnyE.slices_Clone_nil Tryz.laysSlE041_f69 n c w
def Tryz.cloneF_ren : Go.Shelf.Ren := ⟨fun | 41 => 67 | n => n, fun | 22 => 43 | 23 => 121 | 4 => 4 | n => n, fun | n => n⟩
theorem Tryz.cloneF : Go.Proofs.SlLaysE0.n41 Tryz.prog Tryz.cloneF_ren := {
  mixed := by kernel_rfl
  f41 := ⟨Tryz.f67.name, by decide, Tryz.func67.trans (congrArg some (by kernel_rfl))⟩
  t4 := Tryz.underlying4
  a4 := Tryz.isAgg4
  z4 := Tryz.sizeOf4
  v4 := Tryz.zeroValue4
  t22 := Tryz.underlying43
  a22 := Tryz.isAgg43
  z22 := Tryz.sizeOf43
  v22 := Tryz.zeroValue43 }
end Go.Proofs

namespace Go.Proofs.YteimilnecahifaaGreatDoor
open Go.RowKit Go.Shelf Go.Maps

/-- A place as it is handed on. -/
abbrev plV (d : Nat) (name : ByteArray) (node : Value) (slash : Bool) : Value := .agg #[.pointer (some ⟨d, 0, none⟩), .string name, node, .bool slash]

set_option maxHeartbeats 1000000 in
theorem clone_c (s : ByteArray) (w : World) (hs : s.size ≤ 281474976710656) : Calls Tryz.prog 163 #[.string s] w fun e w' => e = .returned (.string s) ∧ Below w.heap.size w w' := by
  go_enter Tryz.func163, Tryz.ntmps163
  go_wp2_with (go_at_call 197; refine (Tryz.stringslite_Clone s w hs).mono ?_; rintro e w2 ⟨rfl, hB⟩)
  go_ret
  exact ⟨rfl, hB⟩

theorem nd_ne_map {w : World} {b mb k N : Nat} {x : Nd} {D : DataW Value} (h : NdAt w b x) (hm : w.ownsMap Tryz.prog k R mb N D) : mb ≠ b := fun e => by
  obtain ⟨es, c, he, _⟩ := hm
  rw [e, show w.heap[b]? = _ from h] at he; cases he
theorem tr_ne_map {w : World} {t mb k N : Nat} {r f n l : Value} {D : DataW Value} (h : TrAt w t r f n l) (hm : w.ownsMap Tryz.prog k R mb N D) : mb ≠ t := fun e => by
  obtain ⟨es, c, he, _⟩ := hm
  rw [e, show w.heap[t]? = _ from h] at he; cases he
theorem nd_ne_tr {w : World} {b t : Nat} {x : Nd} {r f n l : Value} (h : NdAt w b x) (ht : TrAt w t r f n l) : b ≠ t := fun e => by
  rw [e] at h
  have := (show w.heap[t]? = _ from h).symm.trans ht
  simp [Nd.arr] at this

def putN (d : Nat) (x : Nd) : Nd := if x.dir = true then { x with above := ptr d } else { x with links := x.links + 1 }

set_option maxRecDepth 100000 in
set_option maxHeartbeats 4000000 in
theorem put_c (t d n mb N : Nat) (name : ByteArray) (v : Value) (hv : v = .pointer none ∨ ∃ c, v = .pointer (some ⟨c, 0, none⟩)) (slash : Bool) (nm : Int) (r f la : Value) (D : DataW Value) (xd x : Nd) (w : World) (hs : name.size ≤ 2147483648)
    (hT : TrAt w t r f (.int .i64 nm) la) (hd : NdAt w d xd) (hent : xd.ents = .map (some mb)) (hM : w.ownsMap Tryz.prog 9 R mb N D) (hn : NdAt w n x) (_hdn : d ≠ n) (hN : N < 1000000) (h1 : 0 ≤ nm) (h2 : nm < 4611686018427387904) (h3 : 0 ≤ x.links) (h4 : x.links < 4611686018427387904) :
    Calls Tryz.prog 125 #[.pointer (some ⟨t, 0, none⟩), plV d name v slash, .pointer (some ⟨n, 0, none⟩)] w fun e w' => (∃ v, e = .returned v) ∧
      w'.ownsMap Tryz.prog 9 R mb (N + 1) (D.put (sk name) (.held (ptr n))) ∧ NdAt w' n (putN d x) ∧ TrAt w' t r f (.int .i64 (nm + 1)) la ∧ Turn [mb, t, n] w w' := by
  have hdt := nd_ne_tr hd hT
  have hnt := nd_ne_tr hn hT
  have hmd := nd_ne_map hd hM
  have hmn := nd_ne_map hn hM
  have hmt := tr_ne_map hT hM
  have hd5 : ∀ o, (w.alloc o).cell? ⟨d, 5, none⟩ = some (.map (some mb)) := fun o => by rw [← hent]; exact (nd_alloc hd o).c5
  obtain ⟨o1, ho1⟩ : ∃ o1, o1 = Obj.cells #[.pointer (some ⟨d, 0, none⟩), .string name, v, .bool slash] 215 := ⟨_, rfl⟩
  have hb1 : (w.alloc o1).heap[w.heap.size]? = some o1 := al_new _ _ rfl
  have hz1 : (w.alloc o1).heap.size = w.heap.size + 1 := World.size_alloc _ _
  have hw1 : ∃ w1, w1 = w.alloc o1 := ⟨_, rfl⟩
  obtain ⟨w1, hw1⟩ := hw1
  have hd1 := nd_alloc hd o1
  have hn1 := nd_alloc hn o1
  have hT1 := tr_alloc hT o1
  have hM1 := hM.alloc o1
  have hU1 : Turn [mb, t, n] w (w.alloc o1) := Turn.alloc _ _
  rw [← hw1] at hb1 hz1 hd1 hn1 hT1 hM1 hU1
  have hrest : ∀ w2, Below w1.heap.size w1 w2 → ∃ w3, (Instr.mapUpdate 160 (.map (some mb)) (.string name) (.pointer (some ⟨n, 0, none⟩))).run Tryz.prog w2 = .ok () w3 ∧ w3.ownsMap Tryz.prog 9 R mb (N + 1) (D.put (sk name) (.held (ptr n))) ∧ NdAt w3 n x ∧ TrAt w3 t r f (.int .i64 nm) la ∧ Turn [mb, t, n] w w3 ∧ w3.cell? ⟨w.heap.size, 0, none⟩ = some (.pointer (some ⟨d, 0, none⟩)) ∧ w2.cell? ⟨w.heap.size, 0, none⟩ = some (.pointer (some ⟨d, 0, none⟩)) ∧ w2.cell? ⟨d, 5, none⟩ = some (.map (some mb)) := by
    intro w2 hB
    have hM2 := hM1.kept (row := none) ⟨hB.os, hB.tape, hB.output, hB.size, fun k hk _ => hB.block k hk⟩ (by simp)
    obtain ⟨w3, hrun, hown, hgrow⟩ := hM2.update keyed9 under80 (by unfold maxLen; omega) (key := .string name) (val := .pointer (some ⟨n, 0, none⟩)) (WideMaps.keyOf_string_mk Tryz.underlying9 (by unfold maxLen; omega)) (rfl : R _ = some (.held (ptr n), []))
    have hU3 : Turn [mb, t, n] w2 w3 := Turn.grown hgrow (by simp)
    have hU3' : Turn [mb] w2 w3 := Turn.grown hgrow (by simp)
    have hb2 : w2.heap[w.heap.size]? = some o1 := (hB.block _ (by omega)).trans hb1
    have hc2 : w2.cell? ⟨w.heap.size, 0, none⟩ = some (.pointer (some ⟨d, 0, none⟩)) := by rw [ho1] at hb2; simp [World.cell?, hb2]
    exact ⟨w3, hrun, hown, hU3'.nd (hn1.below hB hn1.lt) (by simp; omega), hU3'.tr (hT1.below hB hT1.lt) (by simp; omega), (hU1.trans (Turn.below hB)).trans hU3, hU3'.cell hc2 (by simp; have := hM.lt; omega), hc2, by rw [← hent]; exact (hd1.below hB hd1.lt).c5⟩
  have k0 : w1.cell? ⟨w.heap.size, 0, none⟩ = some (.pointer (some ⟨d, 0, none⟩)) := by rw [ho1] at hb1; simp [World.cell?, hb1]
  have k1 : w1.cell? ⟨w.heap.size, 1, none⟩ = some (.string name) := by rw [ho1] at hb1; simp [World.cell?, hb1]
  have k5 : w1.cell? ⟨d, 5, none⟩ = some (.map (some mb)) := by rw [← hent]; exact hd1.c5
  rw [ho1] at hw1
  have HR := Lib.hid hrest
  have hlt := hT.lt
  clear hrest hb1 ho1 hd1 hn1 hT1 hM1 hU1 hd5 hT hd hn hM
  rcases hv with rfl | ⟨c, rfl⟩
  all_goals
    go_enter Tryz.func125, Tryz.ntmps125
    go_wp2_with fail
    rw [← hw1]
    clear hw1
    go_region_with (go_at_call 163; refine (clone_c name _ (by omega)).mono ?_; rintro e w2 ⟨rfl, hB2⟩; obtain ⟨w3, hrun, hown, hn3, hT3, hU3, hc3, hc2, h52⟩ := HR.out w2 (below_undrew hB2); have t2 := hT3.c2; have tz := hT3.fz 2)
  all_goals
    have hT4 := hT3.set2 (.int .i64 (nm + 1))
    have hn4 := nd_setCell hn3 (a := ⟨t, 2, none⟩) (.int .i64 (nm + 1)) hnt
    have hc4 := (World.cell?_setCell_far w3 ⟨t, 2, none⟩ ⟨w.heap.size, 0, none⟩ (.int .i64 (nm + 1)) (by simp; omega)).trans hc3
    have e3 := hn4.c3
    have e4 := hn4.c4
    have e7 := hn4.c7
    have y4 := hn4.fz 4
    have y7 := hn4.fz 7
    cases hx : x.dir with
    | true =>
      rw [hx] at e3
      go_wp2
      go_end0
      exact ⟨⟨_, rfl⟩, (hown.setCell (a := ⟨t, 2, none⟩) hmt _).setCell (a := ⟨n, 4, none⟩) hmn _, hn4.set 4 _ (by simp [Nd.arr, putN, hx]), tr_setCell hT4 _ (fun e => hnt e.symm), (hU3.trans (Turn.set _ _ _ _ (by simp))).trans (Turn.set _ _ _ _ (by simp))⟩
    | false =>
      rw [hx] at e3
      go_wp2
      go_end0
      exact ⟨⟨_, rfl⟩, (hown.setCell (a := ⟨t, 2, none⟩) hmt _).setCell (a := ⟨n, 7, none⟩) hmn _, hn4.set 7 _ (by simp [Nd.arr, putN, hx]), tr_setCell hT4 _ (fun e => hnt e.symm), (hU3.trans (Turn.set _ _ _ _ (by simp))).trans (Turn.set _ _ _ _ (by simp))⟩
end Go.Proofs.YteimilnecahifaaGreatDoor

namespace Go.Proofs.YteimilnecahifaaGreatDoor
open Go.RowKit Go.Shelf Go.Maps

/-- A directory k steps below the root. -/
def UpK (w : World) : Nat → Nat → Prop
  | b, 0 => ∃ x, NdAt w b x ∧ x.above = .pointer (some ⟨b, 0, none⟩)
  | b, k + 1 => ∃ x u, NdAt w b x ∧ x.above = .pointer (some ⟨u, 0, none⟩) ∧ u ≠ b ∧ UpK w u k
theorem UpK.below {w w' : World} (hb : Below w.heap.size w w') : ∀ {k b : Nat}, UpK w b k → UpK w' b k
  | 0, _b, ⟨x, h, e⟩ => ⟨x, h.below hb h.lt, e⟩
  | _k + 1, _b, ⟨x, u, h, e, hn, hr⟩ => ⟨x, u, h.below hb h.lt, e, hn, hr.below hb⟩

set_option maxRecDepth 100000 in
set_option maxHeartbeats 4000000 in
theorem new_c (w : World) : Calls Tryz.prog 97 #[] w fun e w' => ∃ t rt rm fm, e = .returned (.pointer (some ⟨t, 0, none⟩)) ∧ w.heap.size ≤ t ∧ w.heap.size ≤ rt ∧ w.heap.size ≤ rm ∧ w.heap.size ≤ fm ∧ rm ≠ fm ∧
    NdAt w' rt ⟨1, 493, 0, true, ptr rt, .map (some rm), .slice none 0 0, 0, 0⟩ ∧ w'.ownsMap Tryz.prog 9 R rm 0 (.map []) ∧ w'.ownsMap Tryz.prog 3 R fm 0 (.map []) ∧ TrAt w' t (ptr rt) (.map (some fm)) (.int .i64 0) (.int .i64 1) ∧ Below w.heap.size w w' := by
  have hmm := @run_makeMap Tryz.prog
  go_enter Tryz.func97, Tryz.ntmps97
  go_wp2
  go_ret
  refine ⟨w.heap.size + 1 + 1 + 1, w.heap.size + 1, w.heap.size, w.heap.size + 1 + 1, rfl, by omega, by omega, by omega, by omega, by omega, ?_, ?_, ?_, ?_, ?_⟩
  · exact al_old _ (al_old _ (al_new _ _ (by simp)))
  · exact (((World.ownsMap_made w Tryz.prog 9 R).alloc _).alloc _).alloc _
  · have h := World.ownsMap_made ((w.alloc (.map #[] 0)).alloc (.cells (Nd.arr ⟨1, 493, 0, true, ptr (w.heap.size + 1), .map (some w.heap.size), .slice none 0 0, 0, 0⟩) 162)) Tryz.prog 3 R
    simp only [World.size_alloc] at h
    exact h.alloc _
  · exact al_new _ _ (by simp)
  · exact ((((Below.refl _ w).alloc (Nat.le_refl _) _).alloc (by simp) _).alloc (by simp; omega) _).alloc (by simp; omega) _
end Go.Proofs.YteimilnecahifaaGreatDoor

namespace Go.Proofs.YteimilnecahifaaGreatDoor
open Go.RowKit

def noughts (m : Nat) : List Value := List.replicate m (.int .u8 0)
theorem info5 : (Tryz.prog.info? 5).map (fun i => (i.zero, i.size, i.bytes)) = some (some (.int .u8 0), 1, 1) := by kernel_rfl
end Go.Proofs.YteimilnecahifaaGreatDoor

namespace Go.Proofs.YteimilnecahifaaGreatDoor
open Go.RowKit Go.Shelf Go.Maps

def u8s (l : List UInt8) : List Value := l.map fun c => Value.int .u8 (c.toNat : Int)
theorem u8s_length (l : List UInt8) : (u8s l).length = l.length := by simp [u8s]
theorem u8s_one (l : List UInt8) : ∀ u ∈ u8s l, u.oneCell' = true := fun u hu => by
  obtain ⟨c, _, rfl⟩ := List.mem_map.1 hu; rfl
theorem row_ne {w : World} {base e n b t : Nat} {v : Value} {xs : List Value} {cs : Array Value} {fz : Nat × Nat} (h : w.ownsRow base e 1 v n xs) (hb : w.heap[b]? = some (.cells cs t fz)) (he : t ≠ e) : v.ownBlock ≠ some b := fun hv => by
  rcases h.2 with ⟨rfl, _⟩ | ⟨g, cap, cur, rfl, _, hg, _⟩
  · simp [Value.ownBlock] at hv
  · obtain rfl : g = b := by simpa [Value.ownBlock] using hv
    rw [hg] at hb; cases hb; exact he rfl
theorem row_shape {w : World} {base e n : Nat} {v : Value} {xs : List Value} (h : w.ownsRow base e 1 v n xs) (hn : 0 < n) : ∃ g cap cur, v = .slice (some ⟨g, 0, none⟩) n cap ∧ base ≤ g ∧ w.heap[g]? = some (.cells cur e (0, 0)) ∧ n ≤ cap ∧ cap ≤ maxLen ∧ cur.size = cap ∧ cur.toList.take n = xs := by
  rcases h.2 with ⟨_, rfl⟩ | ⟨g, cap, cur, rfl, hb, hg, h1, h2, h3, h4⟩
  · omega
  · exact ⟨g, cap, cur, rfl, hb, hg, h1, h2, by simpa using h3, by simpa using h4⟩

end Go.Proofs.YteimilnecahifaaGreatDoor

namespace Go.Proofs.YteimilnecahifaaGreatDoor
open Go.RowKit Go.Shelf Go.Maps

end Go.Proofs.YteimilnecahifaaGreatDoor

namespace Go.Proofs.YteimilnecahifaaGreatDoor
open Go.RowKit Go.Shelf Go.Maps

/-- Bytes that a slice holds, in a block below B; or there is none. -/
def Src (B : Nat) (w : World) (v : Value) (bs : List UInt8) : Prop :=
  ∃ a cap, v = .slice a bs.length cap ∧ bs.length ≤ cap ∧ (bs.length = 0 ∨ ∃ b o, a = some ⟨b, o, none⟩ ∧ b < B ∧ ∀ j, j < bs.length → w.cell? ⟨b, o + j, none⟩ = some (.int .u8 ((bs[j]?.getD 0).toNat : Int)))
theorem Src.below {B : Nat} {w w' : World} {v : Value} {bs : List UInt8} (h : Src B w v bs) (hb : Below B w w') : Src B w' v bs := by
  obtain ⟨a, cap, hv, hc, h0 | ⟨b, o, ha, hB, hcell⟩⟩ := h
  · exact ⟨a, cap, hv, hc, .inl h0⟩
  · exact ⟨a, cap, hv, hc, .inr ⟨b, o, ha, hB, fun j hj => (hb.cell (p := ⟨b, o + j, none⟩) hB).trans (hcell j hj)⟩⟩

def FileAt (B : Nat) (w : World) (n : Nat) (ino links holds : Int) (bs : List UInt8) : Prop :=
  B ≤ n ∧ ∃ md tk a cap, NdAt w n ⟨ino, md, tk, false, .pointer none, .map none, .slice a bs.length cap, links, holds⟩ ∧ w.ownsRow B 5 1 (.slice a bs.length cap) bs.length (u8s bs)

theorem own_ge {w : World} {B e n : Nat} {v : Value} {xs : List Value} (h : w.ownsRow B e 1 v n xs) {g : Nat} (hg : v.ownBlock = some g) : B ≤ g := by
  rcases h.2 with ⟨rfl, _⟩ | ⟨g', cap, cur, rfl, hb, _⟩
  · simp [Value.ownBlock] at hg
  · obtain rfl : g' = g := by simpa [Value.ownBlock] using hg
    exact hb
theorem own_turn {w w' : World} {B e n : Nat} {v : Value} {xs : List Value} {S : List Nat} (h : w.ownsRow B e 1 v n xs) (hu : Turn S w w') (hs : ∀ g, v.ownBlock = some g → g ∉ S) : w'.ownsRow B e 1 v n xs := by
  refine ⟨h.1, ?_⟩
  rcases h.2 with hn | ⟨g, cap, cur, rfl, hb, hg, rest⟩
  · exact .inl hn
  · exact .inr ⟨g, cap, cur, rfl, hb, (hu.block g (Array.getElem?_eq_some_iff.1 hg).1 (hs g rfl)).trans hg, rest⟩
theorem FileAt.turn {B : Nat} {w w' : World} {n : Nat} {ino links holds : Int} {bs : List UInt8} {S : List Nat} (h : FileAt B w n ino links holds bs) (hu : Turn S w w') (hs : ∀ k, k ∈ S → k < B) : FileAt B w' n ino links holds bs := by
  obtain ⟨hB, md, tk, a, cap, hn, ho⟩ := h
  exact ⟨hB, md, tk, a, cap, hu.nd hn (fun e => by have := hs n e; omega), own_turn ho hu (fun g hg e => by have := hs g e; have := own_ge ho hg; omega)⟩

end Go.Proofs.YteimilnecahifaaGreatDoor
