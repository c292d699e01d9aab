/- The contracts of the library functions that the program calls, laid at its own numbers. -/
import Derived.Shelf.SlicesE.Delete
import Derived.Shelf.SlicesE.Clone
import Derived.Shelf.Strings.Trim
import Derived.Shelf.Small.Utf8
import Derived.Shelf.Small.Bits
import Derived.Shelf.Small.Strs
import Derived.Shelf.Small.Wraps
import Derived.Shelf.Strconv.Itoa0
import Derived.Shelf.LaysM
import Derived.Shelf.Strconv.Clone
import Derived.Shelf.Strings.Search1
import Derived.Shelf.Strings.Search2
import Derived.Shelf.Strings.Search3
import Derived.Shelf.Strings.Cut
import Derived.Shelf.Strings.Count
import Derived.Shelf.Strings.Shaped
import Derived.Shelf.Strings.LastIndex
import Derived.Shelf.Strings.Prefix
import Derived.Shelf.Unicode.Decode
import Derived.Shelf.Strings.Runes
import Derived.Shelf.Strings.IndexAny
import Derived.Shelf.Strings.AsciiSet
import Derived.Shelf.Strings.IndexAnyAll
import Derived.Shelf.Bits.Mul64
import Derived.Shelf.Unicode.DecodeSlow
import Derived.Shelf.Slices.Clone
import Derived.Shelf.Bytes.SlClone
import Derived.Test.YtfkoehfkiommpaaGreatDoorProg
import Derived.Maps.OwnOps
import Derived.BigQuiet
import Derived.BigRegion
import Derived.Deep.RegionWith
import Derived.Deep.QuietTactic
import Derived.Deep.RegionHeld
import Derived.Test.YtfkoehfkiommpaaGreatDoorKMay
import Derived.LaidEqlPtr
import Derived.Laws.AppendOwn
import Derived.OwnWalk
import Derived.WalkKit
import Derived.Laws.CopyRow
import Derived.Lib.OwnBridge
import Derived.Deep.DeepFit
import Derived.Deep.AppendLies
import Derived.Deep.RegionLaw
import Derived.Deep.RegionHeld3
namespace Go.Proofs
open Go.Shelf
def Tryz.lays137_ren : Go.Shelf.Ren := ⟨fun | 137 => 93 | 217 => 124 | 266 => 152 | n => n, fun | 9 => 9 | 5 => 5 | 3 => 3 | n => n, fun | n => n⟩
theorem Tryz.lays137 : Go.Proofs.Lays.n137 Tryz.prog Tryz.lays137_ren := {
  mixed := by kernel_rfl
  f137 := Tryz.func93.trans (congrArg some (by kernel_rfl))
  f217 := Tryz.func124.trans (congrArg some (by kernel_rfl))
  f266 := Tryz.func152.trans (congrArg some (by kernel_rfl))
  t3 := Tryz.underlying3
  a3 := Tryz.isAgg3
  z3 := Tryz.sizeOf3
  v3 := Tryz.zeroValue3
  t5 := Tryz.underlying5
  a5 := Tryz.isAgg5
  z5 := Tryz.sizeOf5
  v5 := Tryz.zeroValue5
  t9 := Tryz.underlying9
  a9 := Tryz.isAgg9
  z9 := Tryz.sizeOf9
  v9 := Tryz.zeroValue9 }
open Go.RowKit in
theorem Tryz.strings_IndexByte (s : ByteArray) (c : Int) (w : World) :
    Calls Tryz.prog 93 #[.string s, .int .u8 c] w fun e w' => e = .returned (.int .i64 (Lib.indexByte s.data.toList c.toNat.toUInt8)) ∧ w' = w := Any.strings_IndexByte Tryz.lays137 s c w
def Tryz.lays103_ren : Go.Shelf.Ren := ⟨fun | 103 => 43 | 210 => 76 | 206 => 121 | n => n, fun | 9 => 9 | 4 => 4 | 24 => 86 | 3 => 3 | n => n, fun | n => n⟩
theorem Tryz.lays103 : Go.Proofs.Lays.n103 Tryz.prog Tryz.lays103_ren := {
  mixed := by kernel_rfl
  f103 := Tryz.func43.trans (congrArg some (by kernel_rfl))
  f206 := Tryz.func121.trans (congrArg some (by kernel_rfl))
  f210 := Tryz.func76.trans (congrArg some (by kernel_rfl))
  t3 := Tryz.underlying3
  a3 := Tryz.isAgg3
  z3 := Tryz.sizeOf3
  v3 := Tryz.zeroValue3
  t4 := Tryz.underlying4
  a4 := Tryz.isAgg4
  z4 := Tryz.sizeOf4
  v4 := Tryz.zeroValue4
  t9 := Tryz.underlying9
  a9 := Tryz.isAgg9
  z9 := Tryz.sizeOf9
  v9 := Tryz.zeroValue9
  t24 := Tryz.underlying86
  a24 := Tryz.isAgg86
  z24 := Tryz.sizeOf86
  v24 := Tryz.zeroValue86 }
open Go.RowKit in
theorem Tryz.strings_CutPrefix (s p : ByteArray) (w : World) :
    Calls Tryz.prog 43 #[.string s, .string p] w fun e w' => e = .returned (.tuple #[.string ⟨(Lib.trimPrefix s.data.toList p.data.toList).toArray⟩, .bool (Lib.hasPrefix s.data.toList p.data.toList)]) ∧ w' = w := Any.strings_CutPrefix Tryz.lays103 s p w
def Tryz.lays145_ren : Go.Shelf.Ren := ⟨fun | 145 => 44 | 220 => 77 | 219 => 122 | 217 => 124 | 225 => 149 | 224 => 150 | 267 => 151 | 266 => 152 | 314 => 191 | n => n, fun | 9 => 9 | 4 => 4 | 59 => 88 | 3 => 3 | 5 => 5 | 46 => 144 | 146 => 213 | 51 => 212 | n => n, fun | 1 => 0 | n => n⟩
theorem Tryz.lays145 : Go.Proofs.Lays.n145 Tryz.prog Tryz.lays145_ren := {
  mixed := by kernel_rfl
  f145 := Tryz.func44.trans (congrArg some (by kernel_rfl))
  f217 := Tryz.func124.trans (congrArg some (by kernel_rfl))
  f219 := Tryz.func122.trans (congrArg some (by kernel_rfl))
  f220 := Tryz.func77.trans (congrArg some (by kernel_rfl))
  f224 := Tryz.func150.trans (congrArg some (by kernel_rfl))
  f225 := Tryz.func149.trans (congrArg some (by kernel_rfl))
  f266 := Tryz.func152.trans (congrArg some (by kernel_rfl))
  f267 := Tryz.func151.trans (congrArg some (by kernel_rfl))
  f314 := Tryz.func191.trans (congrArg some (by kernel_rfl))
  t3 := Tryz.underlying3
  a3 := Tryz.isAgg3
  z3 := Tryz.sizeOf3
  v3 := Tryz.zeroValue3
  t4 := Tryz.underlying4
  a4 := Tryz.isAgg4
  z4 := Tryz.sizeOf4
  v4 := Tryz.zeroValue4
  t5 := Tryz.underlying5
  a5 := Tryz.isAgg5
  z5 := Tryz.sizeOf5
  v5 := Tryz.zeroValue5
  t9 := Tryz.underlying9
  a9 := Tryz.isAgg9
  z9 := Tryz.sizeOf9
  v9 := Tryz.zeroValue9
  t46 := Tryz.underlying144
  a46 := Tryz.isAgg144
  z46 := Tryz.sizeOf144
  v46 := Tryz.zeroValue144
  t51 := Tryz.underlying212
  a51 := Tryz.isAgg212
  z51 := Tryz.sizeOf212
  v51 := Tryz.zeroValue212
  t59 := Tryz.underlying88
  a59 := Tryz.isAgg88
  z59 := Tryz.sizeOf88
  v59 := Tryz.zeroValue88
  t146 := Tryz.underlying213
  a146 := Tryz.isAgg213
  z146 := Tryz.sizeOf213
  v146 := Tryz.zeroValue213
  g1 := by kernel_rfl }
open Go.RowKit Go.Lib in
theorem Tryz.strings_Cut (s sep : ByteArray) (m : Int) (w : World) (hs : s.size < 4294967281) (hm : w.cell? ⟨0, 0, none⟩ = some (.int .i64 m)) :
    Calls Tryz.prog 44 #[.string s, .string sep] w fun e w' => e = .returned (.tuple #[.string ⟨(Lib.cut s.data.toList sep.data.toList).1.toArray⟩, .string ⟨(Lib.cut s.data.toList sep.data.toList).2.1.toArray⟩, .bool (Lib.cut s.data.toList sep.data.toList).2.2]) ∧ ∃ n, w' = w.drewN n := Any.strings_Cut Tryz.lays145 s sep m w hs hm
def Tryz.lays99_ren : Go.Shelf.Ren := ⟨fun | 99 => 211 | 206 => 121 | n => n, fun | 9 => 9 | 4 => 4 | 3 => 3 | n => n, fun | n => n⟩
theorem Tryz.lays99 : Go.Proofs.Lays.n99 Tryz.prog Tryz.lays99_ren := {
  mixed := by kernel_rfl
  f99 := Tryz.func211.trans (congrArg some (by kernel_rfl))
  f206 := Tryz.func121.trans (congrArg some (by kernel_rfl))
  t3 := Tryz.underlying3
  a3 := Tryz.isAgg3
  z3 := Tryz.sizeOf3
  v3 := Tryz.zeroValue3
  t4 := Tryz.underlying4
  a4 := Tryz.isAgg4
  z4 := Tryz.sizeOf4
  v4 := Tryz.zeroValue4
  t9 := Tryz.underlying9
  a9 := Tryz.isAgg9
  z9 := Tryz.sizeOf9
  v9 := Tryz.zeroValue9 }
open Go.RowKit Go.Lib in
theorem Tryz.strings_HasPrefix (s p : ByteArray) (w : World) :
    Calls Tryz.prog 211 #[.string s, .string p] w fun e w' => e = .returned (.bool (Lib.hasPrefix s.data.toList p.data.toList)) ∧ w' = w := Any.strings_HasPrefix Tryz.lays99 s p w
def Tryz.lays100_ren : Go.Shelf.Ren := ⟨fun | 100 => 229 | 207 => 250 | n => n, fun | 9 => 9 | 4 => 4 | 3 => 3 | n => n, fun | n => n⟩
theorem Tryz.lays100 : Go.Proofs.Lays.n100 Tryz.prog Tryz.lays100_ren := {
  mixed := by kernel_rfl
  f100 := Tryz.func229.trans (congrArg some (by kernel_rfl))
  f207 := Tryz.func250.trans (congrArg some (by kernel_rfl))
  t3 := Tryz.underlying3
  a3 := Tryz.isAgg3
  z3 := Tryz.sizeOf3
  v3 := Tryz.zeroValue3
  t4 := Tryz.underlying4
  a4 := Tryz.isAgg4
  z4 := Tryz.sizeOf4
  v4 := Tryz.zeroValue4
  t9 := Tryz.underlying9
  a9 := Tryz.isAgg9
  z9 := Tryz.sizeOf9
  v9 := Tryz.zeroValue9 }
open Go.RowKit Go.Lib in
theorem Tryz.strings_HasSuffix (s p : ByteArray) (w : World) (hs : s.size ≤ 9223372036854775807) :
    Calls Tryz.prog 229 #[.string s, .string p] w fun e w' => e = .returned (.bool (Lib.hasSuffix s.data.toList p.data.toList)) ∧ w' = w := Any.strings_HasSuffix Tryz.lays100 s p w hs
def Tryz.lays152_ren : Go.Shelf.Ren := ⟨fun | 152 => 271 | 137 => 93 | 119 => 292 | 224 => 150 | 225 => 149 | 217 => 124 | 266 => 152 | n => n, fun | 9 => 9 | 21 => 21 | 3 => 3 | 4 => 4 | 5 => 5 | 0 => 0 | 46 => 144 | n => n, fun | n => n⟩
theorem Tryz.lays152 : Go.Proofs.Lays.n152 Tryz.prog Tryz.lays152_ren := {
  mixed := by kernel_rfl
  f119 := Tryz.func292.trans (congrArg some (by kernel_rfl))
  f137 := Tryz.func93.trans (congrArg some (by kernel_rfl))
  f152 := Tryz.func271.trans (congrArg some (by kernel_rfl))
  f217 := Tryz.func124.trans (congrArg some (by kernel_rfl))
  f224 := Tryz.func150.trans (congrArg some (by kernel_rfl))
  f225 := Tryz.func149.trans (congrArg some (by kernel_rfl))
  f266 := Tryz.func152.trans (congrArg some (by kernel_rfl))
  t0 := Tryz.underlying0
  a0 := Tryz.isAgg0
  z0 := Tryz.sizeOf0
  v0 := Tryz.zeroValue0
  t3 := Tryz.underlying3
  a3 := Tryz.isAgg3
  z3 := Tryz.sizeOf3
  v3 := Tryz.zeroValue3
  t4 := Tryz.underlying4
  a4 := Tryz.isAgg4
  z4 := Tryz.sizeOf4
  v4 := Tryz.zeroValue4
  t5 := Tryz.underlying5
  a5 := Tryz.isAgg5
  z5 := Tryz.sizeOf5
  v5 := Tryz.zeroValue5
  t9 := Tryz.underlying9
  a9 := Tryz.isAgg9
  z9 := Tryz.sizeOf9
  v9 := Tryz.zeroValue9
  t21 := Tryz.underlying21
  a21 := Tryz.isAgg21
  z21 := Tryz.sizeOf21
  v21 := Tryz.zeroValue21
  t46 := Tryz.underlying144
  a46 := Tryz.isAgg144
  z46 := Tryz.sizeOf144
  v46 := Tryz.zeroValue144 }
open Go.RowKit Go.Lib in
theorem Tryz.strings_IndexRune_ascii (s : ByteArray) (r : Int) (w : World) (h0 : 0 ≤ r) (h1 : r < 128) :
    Calls Tryz.prog 271 #[.string s, .int .i32 r] w fun e w' => e = .returned (.int .i64 (Lib.indexByte s.data.toList r.toNat.toUInt8)) ∧ w' = w := Any.strings_IndexRune_ascii Tryz.lays152 s r w h0 h1
def Tryz.lays226_ren : Go.Shelf.Ren := ⟨fun | 226 => 272 | n => n, fun | 3 => 3 | 4 => 4 | n => n, fun | n => n⟩
theorem Tryz.lays226 : Go.Proofs.Lays.n226 Tryz.prog Tryz.lays226_ren := {
  mixed := by kernel_rfl
  f226 := Tryz.func272.trans (congrArg some (by kernel_rfl))
  t3 := Tryz.underlying3
  a3 := Tryz.isAgg3
  z3 := Tryz.sizeOf3
  v3 := Tryz.zeroValue3
  t4 := Tryz.underlying4
  a4 := Tryz.isAgg4
  z4 := Tryz.sizeOf4
  v4 := Tryz.zeroValue4 }
open Go.RowKit Go.Lib in
theorem Tryz.strings_shouldUseASCIISet (n : Int) (w : World) :
    Calls Tryz.prog 272 #[.int .i64 n] w fun e w' => e = .returned (.bool (decide (8 < n))) ∧ w' = w := Any.strings_shouldUseASCIISet Tryz.lays226 n w
def Tryz.lays153_ren : Go.Shelf.Ren := ⟨fun | 153 => 247 | 152 => 271 | 226 => 272 | 227 => 273 | 228 => 274 | 137 => 93 | 119 => 292 | 224 => 150 | 225 => 149 | 217 => 124 | 266 => 152 | n => n, fun | 9 => 9 | 3 => 3 | 4 => 4 | 5 => 5 | 21 => 21 | 117 => 358 | 116 => 357 | 0 => 0 | 46 => 144 | 124 => 362 | n => n, fun | n => n⟩
theorem Tryz.lays153 : Go.Proofs.Lays.n153 Tryz.prog Tryz.lays153_ren := {
  mixed := by kernel_rfl
  f119 := Tryz.func292.trans (congrArg some (by kernel_rfl))
  f137 := Tryz.func93.trans (congrArg some (by kernel_rfl))
  f152 := Tryz.func271.trans (congrArg some (by kernel_rfl))
  f153 := Tryz.func247.trans (congrArg some (by kernel_rfl))
  f217 := Tryz.func124.trans (congrArg some (by kernel_rfl))
  f224 := Tryz.func150.trans (congrArg some (by kernel_rfl))
  f225 := Tryz.func149.trans (congrArg some (by kernel_rfl))
  f226 := Tryz.func272.trans (congrArg some (by kernel_rfl))
  f227 := Tryz.func273.trans (congrArg some (by kernel_rfl))
  f228 := Tryz.func274.trans (congrArg some (by kernel_rfl))
  f266 := Tryz.func152.trans (congrArg some (by kernel_rfl))
  t0 := Tryz.underlying0
  a0 := Tryz.isAgg0
  z0 := Tryz.sizeOf0
  v0 := Tryz.zeroValue0
  t3 := Tryz.underlying3
  a3 := Tryz.isAgg3
  z3 := Tryz.sizeOf3
  v3 := Tryz.zeroValue3
  t4 := Tryz.underlying4
  a4 := Tryz.isAgg4
  z4 := Tryz.sizeOf4
  v4 := Tryz.zeroValue4
  t5 := Tryz.underlying5
  a5 := Tryz.isAgg5
  z5 := Tryz.sizeOf5
  v5 := Tryz.zeroValue5
  t9 := Tryz.underlying9
  a9 := Tryz.isAgg9
  z9 := Tryz.sizeOf9
  v9 := Tryz.zeroValue9
  t21 := Tryz.underlying21
  a21 := Tryz.isAgg21
  z21 := Tryz.sizeOf21
  v21 := Tryz.zeroValue21
  t46 := Tryz.underlying144
  a46 := Tryz.isAgg144
  z46 := Tryz.sizeOf144
  v46 := Tryz.zeroValue144
  t116 := Tryz.underlying357
  a116 := Tryz.isAgg357
  z116 := Tryz.sizeOf357
  t117 := Tryz.underlying358
  a117 := Tryz.isAgg358
  z117 := Tryz.sizeOf358
  v117 := Tryz.zeroValue358
  t124 := Tryz.underlying362
  a124 := Tryz.isAgg362
  z124 := Tryz.sizeOf362
  v124 := Tryz.zeroValue362 }
open Go.RowKit Go.Lib in
theorem Tryz.strings_IndexAny_long (hv116 : ∀ w, (zeroValue 357).run Tryz.prog w = .ok (.agg (Array.replicate 256 (.bool false))) w) (s chars : ByteArray) (w : World) (h2 : 2 ≤ chars.size) (h8 : 8 < s.size) (hs : s.size < 4294967281) (hcs : chars.size < 4294967281) (hascii : ∀ (j : Nat) b, chars.data.toList[j]? = some b → b.toNat < 128) :
    Calls Tryz.prog 247 #[.string s, .string chars] w fun e w' => e = .returned (.int .i64 (Lib.indexAny s.data.toList chars.data.toList)) ∧ w' = ((w.alloc (.cells (Lib.setCells chars.data.toList) 357)).alloc (.cells (Lib.setCells chars.data.toList) 357)) := Any.strings_IndexAny_long Tryz.lays153 hv116 (by kernel_rfl) s chars w h2 h8 hs hcs hascii
def Tryz.lays212_ren : Go.Shelf.Ren := ⟨fun | 212 => 95 | 263 => 125 | 264 => 126 | n => n, fun | 46 => 144 | 51 => 212 | 146 => 213 | 53 => 215 | 148 => 216 | n => n, fun | n => n⟩
theorem Tryz.lays212 : Go.Proofs.Lays.n212 Tryz.prog Tryz.lays212_ren := {
  mixed := by kernel_rfl
  f212 := Tryz.func95.trans (congrArg some (by kernel_rfl))
  f263 := Tryz.func125.trans (congrArg some (by kernel_rfl))
  f264 := Tryz.func126.trans (congrArg some (by kernel_rfl))
  t46 := Tryz.underlying144
  a46 := Tryz.isAgg144
  z46 := Tryz.sizeOf144
  v46 := Tryz.zeroValue144
  t51 := Tryz.underlying212
  a51 := Tryz.isAgg212
  z51 := Tryz.sizeOf212
  v51 := Tryz.zeroValue212
  t53 := Tryz.underlying215
  a53 := Tryz.isAgg215
  z53 := Tryz.sizeOf215
  v53 := Tryz.zeroValue215
  t146 := Tryz.underlying213
  a146 := Tryz.isAgg213
  z146 := Tryz.sizeOf213
  v146 := Tryz.zeroValue213
  t148 := Tryz.underlying216
  a148 := Tryz.isAgg216
  z148 := Tryz.sizeOf216
  v148 := Tryz.zeroValue216 }
open Go.RowKit Go.Lib in
theorem Tryz.bits_Mul (x y : Nat) (hx : x < 18446744073709551616) (hy : y < 18446744073709551616) (w : World) :
    Calls Tryz.prog 95 #[.int .u64 x, .int .u64 y] w fun e w' => e = .returned (.tuple #[.int .u64 ((x * y / 18446744073709551616 : Nat) : Int), .int .u64 ((x * y % 18446744073709551616 : Nat) : Int)]) ∧ w' = w := Any.bits_Mul Tryz.lays212 x y hx hy w
def Tryz.laysSlK4_ren : Go.Shelf.Ren := ⟨fun | 4 => 107 | n => n, fun | 22 => 23 | 4 => 4 | 5 => 5 | n => n, fun | n => n⟩
theorem Tryz.laysSlK4 : Go.Proofs.SlLaysK.n4 Tryz.prog Tryz.laysSlK4_ren := {
  mixed := by kernel_rfl
  f4 := Tryz.func107.trans (congrArg some (by kernel_rfl))
  t4 := Tryz.underlying4
  a4 := Tryz.isAgg4
  z4 := Tryz.sizeOf4
  v4 := Tryz.zeroValue4
  t22 := Tryz.underlying23
  a22 := Tryz.isAgg23
  z22 := Tryz.sizeOf23
  v22 := Tryz.zeroValue23
  t5 := Tryz.underlying5
  i5 := by kernel_rfl }
open Go.RowKit Go.Lib in
theorem Tryz.bytes_Clone_at (a : Addr) (n c : Nat) (xs : List Int) (w : World) (hx : xs.length = n) (hbig : n ≤ 140737488355328) (hc : ∀ i, i < n → w.cell? (a.add i) = some (.int .u8 (xs.getD i 0))) :
    Calls Tryz.prog 107 #[.slice (some a) n c] w fun e w' => ∃ v', e = .returned v' ∧ w'.ownsRow w.heap.size 5 1 v' n (xs.map (Value.int .u8)) ∧ v' ≠ .slice none 0 0 ∧ Below w.heap.size w w' := Any.bytes_Clone_at Tryz.laysSlK4 a n c xs w hx hbig hc
open Go.RowKit Go.Lib in
theorem Tryz.bytes_Clone_nil (n c : Nat) (w : World) :
    Calls Tryz.prog 107 #[.slice none n c] w fun e w' => e = .returned (.slice none 0 0) ∧ w' = w := Any.bytes_Clone_nil Tryz.laysSlK4 n c w
def Tryz.laysSlE041_f63_ren : Go.Shelf.Ren := ⟨fun | 41 => 63 | n => n, fun | 22 => 34 | 23 => 3 | 4 => 4 | n => n, fun | n => n⟩
theorem Tryz.laysSlE041_f63 : Go.Proofs.SlLaysE0.n41 Tryz.prog Tryz.laysSlE041_f63_ren := {
  mixed := by kernel_rfl
  f41 := ⟨Tryz.f63.name, by decide, Tryz.func63.trans (congrArg some (by kernel_rfl))⟩
  t4 := Tryz.underlying4
  a4 := Tryz.isAgg4
  z4 := Tryz.sizeOf4
  v4 := Tryz.zeroValue4
  t22 := Tryz.underlying34
  a22 := Tryz.isAgg34
  z22 := Tryz.sizeOf34
  v22 := Tryz.zeroValue34 }
def Tryz.laysSlE041_f105_ren : Go.Shelf.Ren := ⟨fun | 41 => 105 | n => n, fun | 22 => 31 | 23 => 9 | 4 => 4 | n => n, fun | n => n⟩
theorem Tryz.laysSlE041_f105 : Go.Proofs.SlLaysE0.n41 Tryz.prog Tryz.laysSlE041_f105_ren := {
  mixed := by kernel_rfl
  f41 := ⟨Tryz.f105.name, by decide, Tryz.func105.trans (congrArg some (by kernel_rfl))⟩
  t4 := Tryz.underlying4
  a4 := Tryz.isAgg4
  z4 := Tryz.sizeOf4
  v4 := Tryz.zeroValue4
  t22 := Tryz.underlying31
  a22 := Tryz.isAgg31
  z22 := Tryz.sizeOf31
  v22 := Tryz.zeroValue31 }
open Go.RowKit Go.Lib in
theorem Tryz.slices_Clone_f105 (i0 : TypeInfo) (z : Value) (size bytes : Nat) (hi : Tryz.prog.info? 9 = some i0) (hz0 : i0.zero = some z) (hz1 : i0.size = size) (hz2 : i0.bytes = bytes) (hzs : z.cells.size = size) (hsz : 0 < size) (z23 : ∀ w, (Go.sizeOf 9).run Tryz.prog w = .ok size w) (b off n c : Nat) (news : List Value) (w : World) (hl : news.length = n * size) (hn : n ≤ maxLen) (hbig : n * bytes ≤ 140737488355328) (hc : ∀ j u, news[j]? = some u → w.cell? ⟨b, off + j, none⟩ = some u) (h1 : ∀ u ∈ news, u.oneCell' = true) :
    Calls Tryz.prog 105 #[.slice (some ⟨b, off, none⟩) n c] w fun e w' => ∃ v', e = .returned v' ∧ w'.ownsRow w.heap.size 9 size v' n news ∧ v' ≠ .slice none 0 0 ∧ Below w.heap.size w w' := AnyE.slices_Clone Tryz.laysSlE041_f105 i0 z size bytes hi hz0 hz1 hz2 hzs hsz z23 b off n c news w hl hn hbig hc h1
open Go.RowKit Go.Lib in
theorem Tryz.slices_Clone_nil_f63 (n c : Nat) (w : World) :
    Calls Tryz.prog 63 #[.slice none n c] w fun e w' => e = .returned (.slice none 0 0) ∧ w' = w := AnyE.slices_Clone_nil Tryz.laysSlE041_f63 n c w
open Go.RowKit Go.Lib in
theorem Tryz.slices_Clone_nil_f105 (n c : Nat) (w : World) :
    Calls Tryz.prog 105 #[.slice none n c] w fun e w' => e = .returned (.slice none 0 0) ∧ w' = w := AnyE.slices_Clone_nil Tryz.laysSlE041_f105 n c w
def Tryz.cloneF_ren : Go.Shelf.Ren := ⟨fun | 41 => 103 | n => n, fun | 22 => 33 | 23 => 158 | 4 => 4 | n => n, fun | n => n⟩
theorem Tryz.cloneF : Go.Proofs.SlLaysE0.n41 Tryz.prog Tryz.cloneF_ren := {
  mixed := by kernel_rfl
  f41 := ⟨Tryz.f103.name, by decide, Tryz.func103.trans (congrArg some (by kernel_rfl))⟩
  t4 := Tryz.underlying4
  a4 := Tryz.isAgg4
  z4 := Tryz.sizeOf4
  v4 := Tryz.zeroValue4
  t22 := Tryz.underlying33
  a22 := Tryz.isAgg33
  z22 := Tryz.sizeOf33
  v22 := Tryz.zeroValue33 }
end Go.Proofs

namespace Go.Proofs.YtfkoehfkiommpaaGreatDoor
open Go.RowKit Go.Shelf Go.Maps

end Go.Proofs.YtfkoehfkiommpaaGreatDoor

namespace Go.Proofs.YtfkoehfkiommpaaGreatDoor
open Go.RowKit Go.Shelf Go.Maps

/-- A directory k steps below the root. -/
def UpK (w : World) : Nat → Nat → Prop
  | b, 0 => ∃ x, NdAt w b x ∧ x.above = .pointer (some ⟨b, 0, none⟩)
  | b, k + 1 => ∃ x u, NdAt w b x ∧ x.above = .pointer (some ⟨u, 0, none⟩) ∧ u ≠ b ∧ UpK w u k
theorem UpK.below {w w' : World} (hb : Below w.heap.size w w') : ∀ {k b : Nat}, UpK w b k → UpK w' b k
  | 0, _b, ⟨x, h, e⟩ => ⟨x, h.below hb h.lt, e⟩
  | _k + 1, _b, ⟨x, u, h, e, hn, hr⟩ => ⟨x, u, h.below hb h.lt, e, hn, hr.below hb⟩

set_option maxRecDepth 100000 in
set_option maxHeartbeats 4000000 in
theorem new_c (w : World) : Calls Tryz.prog 127 #[] w fun e w' => ∃ t rt rm fm, e = .returned (.pointer (some ⟨t, 0, none⟩)) ∧ w.heap.size ≤ t ∧ w.heap.size ≤ rt ∧ w.heap.size ≤ rm ∧ w.heap.size ≤ fm ∧ rm ≠ fm ∧
    NdAt w' rt ⟨1, 493, 0, true, ptr rt, .map (some rm), .slice none 0 0, 0, 0⟩ ∧ w'.ownsMap Tryz.prog 9 R rm 0 (.map []) ∧ w'.ownsMap Tryz.prog 3 R fm 0 (.map []) ∧ TrAt w' t (ptr rt) (.map (some fm)) (.int .i64 0) (.int .i64 1) ∧ Below w.heap.size w w' := by
  have hmm := @run_makeMap Tryz.prog
  go_enter Tryz.func127, Tryz.ntmps127
  go_wp2
  go_ret
  refine ⟨w.heap.size + 1 + 1 + 1, w.heap.size + 1, w.heap.size, w.heap.size + 1 + 1, rfl, by omega, by omega, by omega, by omega, by omega, ?_, ?_, ?_, ?_, ?_⟩
  · exact al_old _ (al_old _ (al_new _ _ (by simp)))
  · exact (((World.ownsMap_made w Tryz.prog 9 R).alloc _).alloc _).alloc _
  · have h := World.ownsMap_made ((w.alloc (.map #[] 0)).alloc (.cells (Nd.arr ⟨1, 493, 0, true, ptr (w.heap.size + 1), .map (some w.heap.size), .slice none 0 0, 0, 0⟩) 200)) Tryz.prog 3 R
    simp only [World.size_alloc] at h
    exact h.alloc _
  · exact al_new _ _ (by simp)
  · exact ((((Below.refl _ w).alloc (Nat.le_refl _) _).alloc (by simp) _).alloc (by simp; omega) _).alloc (by simp; omega) _
end Go.Proofs.YtfkoehfkiommpaaGreatDoor

namespace Go.Proofs.YtfkoehfkiommpaaGreatDoor
open Go.RowKit

theorem info5 : (Tryz.prog.info? 5).map (fun i => (i.zero, i.size, i.bytes)) = some (some (.int .u8 0), 1, 1) := by kernel_rfl
end Go.Proofs.YtfkoehfkiommpaaGreatDoor

namespace Go.Proofs.YtfkoehfkiommpaaGreatDoor
open Go.RowKit Go.Shelf Go.Maps

def u8s (l : List UInt8) : List Value := l.map fun c => Value.int .u8 (c.toNat : Int)
theorem u8s_length (l : List UInt8) : (u8s l).length = l.length := by simp [u8s]
theorem u8s_one (l : List UInt8) : ∀ u ∈ u8s l, u.oneCell' = true := fun u hu => by
  obtain ⟨c, _, rfl⟩ := List.mem_map.1 hu; rfl
theorem row_ne {w : World} {base e n b t : Nat} {v : Value} {xs : List Value} {cs : Array Value} {fz : Nat × Nat} (h : w.ownsRow base e 1 v n xs) (hb : w.heap[b]? = some (.cells cs t fz)) (he : t ≠ e) : v.ownBlock ≠ some b := fun hv => by
  rcases h.2 with ⟨rfl, _⟩ | ⟨g, cap, cur, rfl, _, hg, _⟩
  · simp [Value.ownBlock] at hv
  · obtain rfl : g = b := by simpa [Value.ownBlock] using hv
    rw [hg] at hb; cases hb; exact he rfl
theorem row_shape {w : World} {base e n : Nat} {v : Value} {xs : List Value} (h : w.ownsRow base e 1 v n xs) (hn : 0 < n) : ∃ g cap cur, v = .slice (some ⟨g, 0, none⟩) n cap ∧ base ≤ g ∧ w.heap[g]? = some (.cells cur e (0, 0)) ∧ n ≤ cap ∧ cap ≤ maxLen ∧ cur.size = cap ∧ cur.toList.take n = xs := by
  rcases h.2 with ⟨_, rfl⟩ | ⟨g, cap, cur, rfl, hb, hg, h1, h2, h3, h4⟩
  · omega
  · exact ⟨g, cap, cur, rfl, hb, hg, h1, h2, by simpa using h3, by simpa using h4⟩

end Go.Proofs.YtfkoehfkiommpaaGreatDoor

namespace Go.Proofs.YtfkoehfkiommpaaGreatDoor
open Go.RowKit Go.Shelf Go.Maps

end Go.Proofs.YtfkoehfkiommpaaGreatDoor

namespace Go.Proofs.YtfkoehfkiommpaaGreatDoor
open Go.RowKit Go.Shelf Go.Maps

/-- Bytes that a slice holds, in a block below B; or there is none. -/
def Src (B : Nat) (w : World) (v : Value) (bs : List UInt8) : Prop :=
  ∃ a cap, v = .slice a bs.length cap ∧ bs.length ≤ cap ∧ (bs.length = 0 ∨ ∃ b o, a = some ⟨b, o, none⟩ ∧ b < B ∧ ∀ j, j < bs.length → w.cell? ⟨b, o + j, none⟩ = some (.int .u8 ((bs[j]?.getD 0).toNat : Int)))
theorem Src.below {B : Nat} {w w' : World} {v : Value} {bs : List UInt8} (h : Src B w v bs) (hb : Below B w w') : Src B w' v bs := by
  obtain ⟨a, cap, hv, hc, h0 | ⟨b, o, ha, hB, hcell⟩⟩ := h
  · exact ⟨a, cap, hv, hc, .inl h0⟩
  · exact ⟨a, cap, hv, hc, .inr ⟨b, o, ha, hB, fun j hj => (hb.cell (p := ⟨b, o + j, none⟩) hB).trans (hcell j hj)⟩⟩

def FileAt (B : Nat) (w : World) (n : Nat) (ino links holds : Int) (bs : List UInt8) : Prop :=
  B ≤ n ∧ ∃ md tk a cap, NdAt w n ⟨ino, md, tk, false, .pointer none, .map none, .slice a bs.length cap, links, holds⟩ ∧ w.ownsRow B 5 1 (.slice a bs.length cap) bs.length (u8s bs)

theorem own_ge {w : World} {B e n : Nat} {v : Value} {xs : List Value} (h : w.ownsRow B e 1 v n xs) {g : Nat} (hg : v.ownBlock = some g) : B ≤ g := by
  rcases h.2 with ⟨rfl, _⟩ | ⟨g', cap, cur, rfl, hb, _⟩
  · simp [Value.ownBlock] at hg
  · obtain rfl : g' = g := by simpa [Value.ownBlock] using hg
    exact hb
theorem own_turn {w w' : World} {B e n : Nat} {v : Value} {xs : List Value} {S : List Nat} (h : w.ownsRow B e 1 v n xs) (hu : Turn S w w') (hs : ∀ g, v.ownBlock = some g → g ∉ S) : w'.ownsRow B e 1 v n xs := by
  refine ⟨h.1, ?_⟩
  rcases h.2 with hn | ⟨g, cap, cur, rfl, hb, hg, rest⟩
  · exact .inl hn
  · exact .inr ⟨g, cap, cur, rfl, hb, (hu.block g (Array.getElem?_eq_some_iff.1 hg).1 (hs g rfl)).trans hg, rest⟩
theorem FileAt.turn {B : Nat} {w w' : World} {n : Nat} {ino links holds : Int} {bs : List UInt8} {S : List Nat} (h : FileAt B w n ino links holds bs) (hu : Turn S w w') (hs : ∀ k, k ∈ S → k < B) : FileAt B w' n ino links holds bs := by
  obtain ⟨hB, md, tk, a, cap, hn, ho⟩ := h
  exact ⟨hB, md, tk, a, cap, hu.nd hn (fun e => by have := hs n e; omega), own_turn ho hu (fun g hg e => by have := hs g e; have := own_ge ho hg; omega)⟩

end Go.Proofs.YtfkoehfkiommpaaGreatDoor

namespace Go.Proofs.YtfkoehfkiommpaaGreatDoor
open Go.RowKit Go.Shelf Go.Maps

theorem Turn.put {α : Type} [Inhabited α] (enc : α → Value) (w : World) (q g : Nat) (d : Array α) : Turn [g] w (Sort.putRow enc (Sort.ahead w q) g 0 d) :=
  ⟨rfl, rfl, rfl, by simp [Sort.putRow, Sort.mapBlock, Sort.ahead], fun k _ hk => by
    have hne : g ≠ k := fun e => hk (by simp [e])
    simp [Sort.putRow, Sort.mapBlock, Sort.ahead, Array.getElem?_modify, hne]⟩
/-- A copy of the first bytes of a slice. -/
theorem bclone_c (b o n c : Nat) (d : List UInt8) (w : World) (hd : d.length = n) (hn : n ≤ 1073741824) (hc : ∀ j, j < n → w.cell? ⟨b, o + j, none⟩ = some (.int .u8 ((d[j]?.getD 0).toNat : Int))) :
    Calls Tryz.prog 107 #[.slice (some ⟨b, o, none⟩) n c] w fun e w' => ∃ v', e = .returned v' ∧ w'.ownsRow w.heap.size 5 1 v' n (u8s d) ∧ Below w.heap.size w w' := by
  refine (Tryz.bytes_Clone_at ⟨b, o, none⟩ n c (d.map fun x => (x.toNat : Int)) w (by simpa using hd) (by omega) (fun i hi => ?_)).mono ?_
  · rw [Addr.add_lit, hc i hi]
    simp [List.getD, show i < d.length by omega]
  · rintro e w' ⟨v', rfl, h1, _, h3⟩
    refine ⟨v', rfl, ?_, h3⟩
    have : (d.map fun x => (x.toNat : Int)).map (Value.int .u8) = u8s d := by simp [u8s, Function.comp_def]
    rw [← this]; exact h1

theorem row_split {w : World} {base n : Nat} {v : Value} {d : List UInt8} (h : w.ownsRow base 5 1 v n (u8s d)) : d.length = n ∧ ((v = .slice none 0 0 ∧ n = 0) ∨ ∃ g cap, v = .slice (some ⟨g, 0, none⟩) n cap ∧ base ≤ g ∧ g < w.heap.size ∧ n ≤ cap ∧ cap ≤ maxLen ∧ ∀ j, j < n → w.cell? ⟨g, j, none⟩ = some (.int .u8 ((d[j]?.getD 0).toNat : Int))) := by
  have hl : d.length = n := by have := h.1; rw [u8s_length] at this; omega
  refine ⟨hl, ?_⟩
  rcases h.2 with ⟨e0, h0⟩ | ⟨g, cap, cur, rfl, hb, hg, hn, hm, hs, ht⟩
  · exact .inl ⟨e0, h0⟩
  · refine .inr ⟨g, cap, rfl, hb, h_lt hg, hn, hm, fun j hj => h_cell hg j ?_⟩
    have e1 : (cur.toList.take (n * 1))[j]? = (u8s d)[j]? := by rw [ht]
    rw [List.getElem?_take, if_pos (by omega), Array.getElem?_toList] at e1
    rw [e1]
    simp [u8s, show j < d.length by omega]

end Go.Proofs.YtfkoehfkiommpaaGreatDoor

namespace Go.Proofs.YtfkoehfkiommpaaGreatDoor
open Go.RowKit Go.Shelf Go.Maps

end Go.Proofs.YtfkoehfkiommpaaGreatDoor

namespace Go.Proofs.YtfkoehfkiommpaaGreatDoor
open Go.RowKit Go.Shelf Go.Maps

set_option maxRecDepth 100000 in
set_option maxHeartbeats 1000000 in
theorem read_err (k : Nat) (x : Value) (m n e : Int) (Q : World → Prop) (w : World) (he : (e != 0) = true) (h1 : Calls Tryz.prog 307 #[x, .int .i64 m] w fun r w' => r = .returned (.int .i64 0) ∧ w' = w)
    (h2 : Calls Tryz.prog 302 #[ptr k, .int .i64 m, .bool false] w fun r w' => r = .returned (.tuple #[.int .i64 n, .int .i64 e]) ∧ Q w') :
    Calls Tryz.prog 299 #[ptr k, x, .int .i64 m] w fun r w' => r = .returned (.tuple #[.slice none 0 0, .int .i64 e]) ∧ Q w' := by
  go_enter Tryz.func299, Tryz.ntmps299
  go_wp2_with (first
    | (go_at_call 307; refine h1.mono ?_; rintro r w2 ⟨rfl, hw2⟩; rw [hw2]; clear hw2)
    | (go_at_call 302; refine h2.mono ?_; rintro r w3 ⟨rfl, hQ⟩))
  refine bodyPost_ret (results_tmp2 rfl _ _ _) rfl ?_
  exact ⟨rfl, hQ⟩

set_option maxRecDepth 100000 in
set_option maxHeartbeats 1000000 in
theorem read_ok (k : Nat) (x : Value) (m n : Int) (Q : World → Prop) (Q2 : Value → World → Prop) (w : World) (h1 : Calls Tryz.prog 307 #[x, .int .i64 m] w fun r w' => r = .returned (.int .i64 0) ∧ w' = w)
    (h2 : Calls Tryz.prog 302 #[ptr k, .int .i64 m, .bool false] w fun r w' => r = .returned (.tuple #[.int .i64 n, .int .i64 0]) ∧ Q w')
    (h3 : ∀ w1, Q w1 → Calls Tryz.prog 308 #[ptr k, x, .int .i64 n] w1 fun r w' => ∃ v, r = .returned v ∧ Q2 v w') :
    Calls Tryz.prog 299 #[ptr k, x, .int .i64 m] w fun r w' => ∃ v, r = .returned (.tuple #[v, .int .i64 0]) ∧ Q2 v w' := by
  have H3 := Lib.hid h3
  clear h3
  go_enter Tryz.func299, Tryz.ntmps299
  go_wp2_with (first
    | (go_at_call 307; refine h1.mono ?_; rintro r w2 ⟨rfl, hw2⟩; rw [hw2]; clear hw2)
    | (go_at_call 302; refine h2.mono ?_; rintro r w3 ⟨rfl, hQ⟩; have h4 := H3.out w3 hQ)
    | (go_at_call 308; refine h4.mono ?_; rintro r w4 ⟨v, rfl, hQ2⟩))
  refine bodyPost_ret (results_tmp2 rfl _ _ _) rfl ?_
  exact ⟨v, rfl, hQ2⟩

set_option maxRecDepth 100000 in
set_option maxHeartbeats 1000000 in
theorem write_err (k : Nat) (x : Value) (a : Option Addr) (L c room : Nat) (n e : Int) (Q : World → Prop) (w : World) (hL : 0 < L) (he : (e != 0) = true) (h1 : Calls Tryz.prog 300 #[x] w fun r w' => r = .returned (.bool true) ∧ w' = w)
    (h2 : Calls Tryz.prog 301 #[ptr k, x] w fun r w' => r = .returned (.tuple #[.int .i64 room, .int .i64 0]) ∧ ∃ q, w' = w.drewN q)
    (h3 : ∀ q, Calls Tryz.prog 302 #[ptr k, .int .i64 (min L room : Nat), .bool true] (w.drewN q) fun r w' => r = .returned (.tuple #[.int .i64 n, .int .i64 e]) ∧ Q w') :
    Calls Tryz.prog 290 #[ptr k, x, .slice a L c] w fun r w' => r = .returned (.tuple #[.int .i64 0, .int .i64 e]) ∧ Q w' := by
  have hL' : ((L : Int) == 0) = false := by simp; omega
  obtain ⟨mn, hmn⟩ : ∃ mn, mn = min L room := ⟨_, rfl⟩
  have hmin : min (L : Int) (room : Int) = (mn : Int) := by omega
  rw [← hmn] at h3
  have H3 := Lib.hid h3
  clear h3 hmn
  go_enter Tryz.func290, Tryz.ntmps290
  go_wp2_with (first
    | (go_at_call 300; refine h1.mono ?_; rintro r w2 ⟨rfl, hw2⟩; rw [hw2]; clear hw2)
    | (go_at_call 301; refine h2.mono ?_; rintro r w2 ⟨rfl, q, hw2⟩; have h4 := H3.out q; rw [← hw2] at h4; clear hw2)
    | (go_at_call 302; refine h4.mono ?_; rintro r w3 ⟨rfl, hQ⟩))
  refine bodyPost_ret (results_tmp2 rfl _ _ _) rfl ?_
  exact ⟨rfl, hQ⟩

set_option maxRecDepth 100000 in
set_option maxHeartbeats 1000000 in
theorem write_ok (k : Nat) (x : Value) (a : Addr) (L c room n : Nat) (Q Q2 : World → Prop) (w : World) (hL : 0 < L) (hc : L ≤ c) (hn : n ≤ L) (h1 : Calls Tryz.prog 300 #[x] w fun r w' => r = .returned (.bool true) ∧ w' = w)
    (h2 : Calls Tryz.prog 301 #[ptr k, x] w fun r w' => r = .returned (.tuple #[.int .i64 room, .int .i64 0]) ∧ ∃ q, w' = w.drewN q)
    (h3 : ∀ q, Calls Tryz.prog 302 #[ptr k, .int .i64 (min L room : Nat), .bool true] (w.drewN q) fun r w' => r = .returned (.tuple #[.int .i64 n, .int .i64 0]) ∧ Q w')
    (h4 : ∀ w1, Q w1 → Calls Tryz.prog 303 #[ptr k, x, .slice (some a) n c] w1 fun r w' => (∃ v, r = .returned v) ∧ Q2 w') :
    Calls Tryz.prog 290 #[ptr k, x, .slice (some a) L c] w fun r w' => r = .returned (.tuple #[.int .i64 n, .int .i64 0]) ∧ Q2 w' := by
  have hL' : ((L : Int) == 0) = false := by simp; omega
  obtain ⟨mn, hmn⟩ : ∃ mn, mn = min L room := ⟨_, rfl⟩
  have hmin : min (L : Int) (room : Int) = (mn : Int) := by omega
  rw [← hmn] at h3
  have H3 := Lib.hid h3
  have H4 := Lib.hid h4
  have hnc : ¬ (c : Int) < (n : Int) := by omega
  clear h3 hmn h4
  go_enter Tryz.func290, Tryz.ntmps290
  go_wp2_with (first
    | (go_at_call 300; refine h1.mono ?_; rintro r w2 ⟨rfl, hw2⟩; rw [hw2]; clear hw2)
    | (go_at_call 301; refine h2.mono ?_; rintro r w2 ⟨rfl, q, hw2⟩; have h5 := H3.out q; rw [← hw2] at h5; clear hw2)
    | (go_at_call 302; refine h5.mono ?_; rintro r w3 ⟨rfl, hQ⟩; have h6 := H4.out w3 hQ)
    | (go_at_call 303; refine h6.mono ?_; rintro r w4 ⟨⟨v, rfl⟩, hQ2⟩))
  refine bodyPost_ret (results_tmp2 rfl _ _ _) rfl ?_
  exact ⟨rfl, hQ2⟩
end Go.Proofs.YtfkoehfkiommpaaGreatDoor

namespace Go.Proofs.YtfkoehfkiommpaaGreatDoor
open Go.RowKit Go.Shelf Go.Maps

/-- Where all lies, and what befalls. -/
structure PF where
  B : Nat
  k : Nat
  fb : Nat
  th : Nat
  re : Nat
  we : Nat
  p : Nat
  tr : Value
  fv : Value
  l : List (Int × Int)
  now : Int
  last : Int
  rc : Int
structure PFok (F : PF) : Prop where
  kB : F.k < F.B
  fB : F.fb < F.B
  rB : F.re < F.B
  wB : F.we < F.B
  pB : F.p < F.B
  fk : F.fb ≠ F.k
  fp : F.fb ≠ F.p
  kinds : ∀ j, j < F.l.length → (F.l[j]?.getD (0, 0)).1 = 1 ∨ (F.l[j]?.getD (0, 0)).1 = 2
  rc0 : (F.rc == 0) = false
structure Pst (F : PF) (wc : Int) (w : World) (u : Nat) (d : List UInt8) (v : Value) : Prop where
  ok : PFok F
  hK : KnAt w F.k F.tr F.fv u F.now F.th F.last
  hF : Fl w F.fv F.fb F.l
  hR : ReAt w F.re F.rc F.p
  hW : WeAt w F.we wc F.p
  hP : PpAt w F.p v F.re F.we
  ho : w.ownsRow F.B 5 1 v d.length (u8s d)
  hB : F.B ≤ w.heap.size
  hu : u ≤ F.l.length
  hd : d.length ≤ 64
section
variable {F : PF} {wc : Int} {w w' : World} {u : Nat} {d : List UInt8} {v : Value}
theorem Pst.turn {S : List Nat} (h : Pst F wc w u d v) (hU : Turn S w w') (h1 : ∀ x, x ∈ S → F.B ≤ x) (h2 : ∀ g, v.ownBlock = some g → g ∉ S) : Pst F wc w' u d v := by
  have hno : ∀ x, x < F.B → x ∉ S := fun x hx e => by have := h1 x e; omega
  exact ⟨h.ok, hU.ob h.hK (hno _ h.ok.kB), h.hF.turn hU (hno _ h.ok.fB), hU.ob h.hR (hno _ h.ok.rB), hU.ob h.hW (hno _ h.ok.wB), hU.ob h.hP (hno _ h.ok.pB), own_turn h.ho hU h2, Nat.le_trans h.hB hU.size, h.hu, h.hd⟩
/-- The kernel alone has turned. -/
theorem Pst.kern (h : Pst F wc w u d v) {u' : Nat} (hK : KnAt w' F.k F.tr F.fv u' F.now F.th F.last) (hU : Turn [F.k] w w') (hu' : u' ≤ F.l.length) : Pst F wc w' u' d v := by
  have hk := h.ok.kB
  refine ⟨h.ok, hK, h.hF.turn hU (by simpa using h.ok.fk), hU.ob h.hR ?_, hU.ob h.hW ?_, hU.ob h.hP ?_, own_turn h.ho hU (fun g hg e => ?_), Nat.le_trans h.hB hU.size, hu', h.hd⟩
  · simpa using h_ne h.hR h.hK (by decide)
  · simpa using h_ne h.hW h.hK (by decide)
  · simpa using h_ne h.hP h.hK (by decide)
  · have := own_ge h.ho hg; simp at e; omega

end
end Go.Proofs.YtfkoehfkiommpaaGreatDoor
