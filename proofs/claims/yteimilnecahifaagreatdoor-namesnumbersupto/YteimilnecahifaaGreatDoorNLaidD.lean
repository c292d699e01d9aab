/- What is known of the program's variables, out of a row; the teller of numbers tells them. -/
import Derived.Test.YteimilnecahifaaGreatDoorShelf4
import Derived.Test.YteimilnecahifaaGreatDoorNSays2
import Derived.Test.YteimilnecahifaaGreatDoorNDig
import Derived.Lib.ItoaNum
import Derived.LaidLaws
namespace Go.Proofs.YteimilnecahifaaGreatDoor.Nm
open Go.Proofs.YteimilnecahifaaGreatDoor Go.Proofs.YteimilnecahifaaGreatDoor.Op
open Go.RowKit

theorem gPow : Tryz.prog.globalNamed "internal/strconv.uint64pow10" = some 1 := by kernel_rfl
theorem g64 : Tryz.prog.globalNamed "math/bits.deBruijn64tab" = some 5 := by kernel_rfl
theorem gEs : Tryz.prog.globalNamed "strconv.ErrSyntax" = some 8 := by kernel_rfl
theorem tEs : (Tryz.prog.globals[8]?).map (·.type) = some 248 := by kernel_rfl
/-- A variable's block has its type. -/
theorem typed {W : World} (g : Nat) (t : TypeId) (h : W.ShapedOpen Tryz.prog) (hg : g < Tryz.prog.globals.size) (h0 : (((begin Tryz.prog (fun _ _ => 0) default).world.heap[g]?).bind Obj.row?).map (·.2) = some t) : ∃ cs fz, W.heap[g]? = some (.cells cs t fz) := by
  obtain ⟨⟨zero, t'⟩, h1, h2⟩ := Option.map_eq_some_iff.1 h0
  obtain rfl : t' = t := h2
  obtain ⟨cs, hh, _, _⟩ := h.1 g zero t' hg h1
  exact ⟨cs, _, hh⟩
theorem am_g {W : World} {l : List (String × DataW Unit)} (h : laidMet Tryz.prog l W) (hsh : W.ShapedOpen Tryz.prog)
    (hp : l.filter (fun x => x.1 == "toolchest/text.words") = [("toolchest/text.words", Rows.laid_toolchest_text_words)])
    (h64 : l.filter (fun x => x.1 == "math/bits.deBruijn64tab") = [("math/bits.deBruijn64tab", Rows.laid_math_bits_deBruijn64tab)])
    (h10 : l.filter (fun x => x.1 == "internal/strconv.uint64pow10") = [("internal/strconv.uint64pow10", Rows.laid_internal_strconv_uint64pow10)])
    (hes : l.filter (fun x => x.1 == "strconv.ErrSyntax") = [("strconv.ErrSyntax", Rows.laid_strconv_ErrSyntax)]) : AmG W := by
  have a1 := h.filter (fun x => x.1 == "math/bits.deBruijn64tab")
  rw [h64] at a1
  have a2 := h.filter (fun x => x.1 == "internal/strconv.uint64pow10")
  rw [h10] at a2
  have a3 := h.filter (fun x => x.1 == "strconv.ErrSyntax")
  rw [hes] at a3
  have b1 : Lib.TabIs Tryz.prog W "math/bits.deBruijn64tab" .u8 [0, 1, 56, 2, 57, 49, 28, 3, 61, 58, 42, 50, 38, 29, 17, 4, 62, 47, 59, 36, 45, 43, 51, 22, 53, 39, 33, 30, 24, 18, 12, 5, 63, 55, 48, 27, 60, 41, 37, 16, 46, 35, 44, 21, 52, 32, 23, 11, 54, 26, 40, 15, 34, 20, 31, 10, 25, 14, 19, 9, 13, 8, 7, 6] :=
    Lib.tabIs_of_head (rest := []) g64 (by kernel_rfl) Tryz.underlying212 Tryz.underlying5 (by kernel_rfl) (by kernel_rfl) a1
  have b2 : Lib.TabIs Tryz.prog W "internal/strconv.uint64pow10" .u64 Lib.pow10Tab :=
    Lib.tabIs_of_head (rest := []) gPow (by kernel_rfl) Tryz.underlying108 Tryz.underlying66 (by kernel_rfl) (by kernel_rfl) a2
  have b3 : ErS W := by
    obtain ⟨ps, ⟨g', t', cs, fuel, p, q, hg', ht', hvar, hd, _, _⟩, _⟩ := a3
    obtain rfl := Option.some.inj (gEs.symm.trans hg')
    obtain rfl := Option.some.inj (tEs.symm.trans ht')
    obtain ⟨f1, u, v, he, _, _⟩ := iface_of_trod Tryz.underlying248 hd
    have hc := World.var?_cell gEs hvar 0
    have hz : cs[0]? = some (.iface u v) := by
      have := congrArg (·[0]?) he
      simpa using this
    exact ⟨_, hc.trans hz, .inr ⟨u, v, rfl⟩⟩
  have n := am_n h hsh hp
  have w25 := n.wd 25 (by decide)
  rw [wds_25] at w25
  exact ⟨n.ml, w25, typed 6 320 hsh (of_decide_eq_true (by kernel_rfl)) (by kernel_rfl), ⟨typed 5 212 hsh (of_decide_eq_true (by kernel_rfl)) (by kernel_rfl), typed 1 108 hsh (of_decide_eq_true (by kernel_rfl)) (by kernel_rfl), typed 8 248 hsh (of_decide_eq_true (by kernel_rfl)) (by kernel_rfl)⟩,
    ⟨b1.cell g64 7 (by decide), b1.cell g64 15 (by decide), World.block_lt_of_cell? _ _ (b2.cell gPow 0 (by decide)), b2⟩, b3⟩
theorem dig_n : DigN AmG := by
  intro n b w hA hn hb
  refine (digits_any (n : Int) (b : Int) (by omega) (by omega) w hA.tab.t7 hA.tab.t15 (World.block_lt_of_cell? _ _ hA.tab.t7) hA.tab.p10).mono ?_
  rintro e w' ⟨rfl, hB⟩
  refine ⟨?_, hB⟩
  have e : digAt (b : Int) (n : Int) = dgB b n := by
    rcases hb with rfl | rfl
    · exact digL_nonneg 10 n
    · exact digL_nonneg 16 n
  rw [e]
  rfl
end Go.Proofs.YteimilnecahifaaGreatDoor.Nm
