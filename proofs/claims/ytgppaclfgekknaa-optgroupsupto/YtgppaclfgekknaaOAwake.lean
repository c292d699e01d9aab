/- The chapter's examples, over what is asked of the program. -/
import Derived.Test.YtgppaclfgekknaaOLaw
namespace Go.Proofs.Ytgppaclfgekknaa
open Go.RowKit

theorem parseS_to {spec : ByteArray} {l : Opts} {a : ByteArray} {rest : List ByteArray} {p : Opts × List ByteArray} (h : a ≠ dashes) (h2 : ¬ (a.size < 2 ∨ a.data.toList.head? ≠ some 45)) (hg : groupS spec l (a.data.toList.drop 1) rest = some p) : parseS spec l (a :: rest) = parseS spec p.1 p.2 := by rw [parseS_go _ _ _ _ h h2, hg]; rfl
theorem parseS_no {spec : ByteArray} {l : Opts} {a : ByteArray} {rest : List ByteArray} (h : a ≠ dashes) (h2 : ¬ (a.size < 2 ∨ a.data.toList.head? ≠ some 45)) (hg : groupS spec l (a.data.toList.drop 1) rest = none) : parseS spec l (a :: rest) = none := by rw [parseS_go _ _ _ _ h h2, hg]; rfl

def exSpec : ByteArray := ⟨#[97, 98, 110, 58]⟩
def exArgs1 : List ByteArray := [⟨#[45, 97, 98]⟩, ⟨#[45, 110, 53]⟩, ⟨#[120]⟩, ⟨#[45, 97]⟩]
def exArgs2 : List ByteArray := [⟨#[45, 110]⟩, ⟨#[45, 97]⟩, ⟨#[45, 45]⟩, ⟨#[45, 98]⟩]
def exArgs3 : List ByteArray := [⟨#[45, 97, 110]⟩]
theorem ex1 : parseS exSpec [] exArgs1 = some ([(97, ⟨#[]⟩), (98, ⟨#[]⟩), (110, ⟨#[53]⟩)], [⟨#[120]⟩, ⟨#[45, 97]⟩]) := by
  unfold exArgs1
  rw [parseS_to (p := ([(97, ⟨#[]⟩), (98, ⟨#[]⟩)], [⟨#[45, 110, 53]⟩, ⟨#[120]⟩, ⟨#[45, 97]⟩])) (by decide) (by decide) (by decide),
    parseS_to (p := ([(97, ⟨#[]⟩), (98, ⟨#[]⟩), (110, ⟨#[53]⟩)], [⟨#[120]⟩, ⟨#[45, 97]⟩])) (by decide) (by decide) (by decide), parseS_stop _ _ _ _ (by decide) (by decide)]
theorem ex2 : parseS exSpec [] exArgs2 = some ([(110, ⟨#[45, 97]⟩)], [⟨#[45, 98]⟩]) := by
  unfold exArgs2
  rw [parseS_to (p := ([(110, ⟨#[45, 97]⟩)], [⟨#[45, 45]⟩, ⟨#[45, 98]⟩])) (by decide) (by decide) (by decide), parseS_dd _ _ _ _ (by decide)]
theorem ex3 : parseS exSpec [] exArgs3 = none := by
  unfold exArgs3
  rw [parseS_no (by decide) (by decide) (by decide)]

theorem strs_new (w : World) (l : List ByteArray) (h : l.length ≤ 2097152) : StrsAt (w.alloc (.cells (l.map .string).toArray 9)) (.slice (some ⟨w.heap.size, 0, none⟩) l.length l.length) l := by
  refine .inr ⟨w.heap.size, 0, l.length, rfl, by omega, by simp, fun j hj => ?_⟩
  have hh : (w.alloc (.cells (l.map .string).toArray 9)).heap[w.heap.size]? = some (.cells (l.map .string).toArray 9) := by show (w.heap.push _)[w.heap.size]? = _; simp
  simp only [World.cell?, hh]
  simp [nth, hj]

theorem say1 (S : Says) (w : World) : Calls Try.prog 6 #[.slice (some ⟨w.heap.size, 0, none⟩) 4 4, .string ⟨#[97, 98, 110, 58]⟩] (w.alloc (.cells #[.string ⟨#[45, 97, 98]⟩, .string ⟨#[45, 110, 53]⟩, .string ⟨#[120]⟩, .string ⟨#[45, 97]⟩] 9)) fun e w' => ∃ ga ca lo, e = .returned (.tuple #[.slice (some ⟨ga, 0, none⟩) 3 ca, lo, .int .i64 0]) ∧ OptsAt w' 0 (.slice (some ⟨ga, 0, none⟩) 3 ca) [(97, ⟨#[]⟩), (98, ⟨#[]⟩), (110, ⟨#[53]⟩)] ∧ StrsAt w' lo [⟨#[120]⟩, ⟨#[45, 97]⟩] ∧ Below w.heap.size w w' := by
  refine (S.parse _ exArgs1 exSpec _ (by decide) (by decide) (by decide) (strs_new w exArgs1 (by decide))).mono ?_
  rw [ex1]
  rintro e w' ⟨⟨lv, ov, rfl, hl, hr⟩, hb⟩
  obtain ⟨xa, ca, rfl⟩ := own_slice2 hl
  obtain ⟨g, rfl⟩ := own_some2 hl (by decide)
  exact ⟨g, ca, ov, rfl, own_zero hl, hr.1, below_new hb⟩
theorem say2 (S : Says) (w : World) : Calls Try.prog 6 #[.slice (some ⟨w.heap.size, 0, none⟩) 4 4, .string ⟨#[97, 98, 110, 58]⟩] (w.alloc (.cells #[.string ⟨#[45, 110]⟩, .string ⟨#[45, 97]⟩, .string ⟨#[45, 45]⟩, .string ⟨#[45, 98]⟩] 9)) fun e w' => ∃ ga ca lo, e = .returned (.tuple #[.slice (some ⟨ga, 0, none⟩) 1 ca, lo, .int .i64 0]) ∧ OptsAt w' 0 (.slice (some ⟨ga, 0, none⟩) 1 ca) [(110, ⟨#[45, 97]⟩)] ∧ StrsAt w' lo [⟨#[45, 98]⟩] ∧ Below w.heap.size w w' := by
  refine (S.parse _ exArgs2 exSpec _ (by decide) (by decide) (by decide) (strs_new w exArgs2 (by decide))).mono ?_
  rw [ex2]
  rintro e w' ⟨⟨lv, ov, rfl, hl, hr⟩, hb⟩
  obtain ⟨xa, ca, rfl⟩ := own_slice2 hl
  obtain ⟨g, rfl⟩ := own_some2 hl (by decide)
  exact ⟨g, ca, ov, rfl, own_zero hl, hr.1, below_new hb⟩
theorem say3 (S : Says) (w : World) : Calls Try.prog 6 #[.slice (some ⟨w.heap.size, 0, none⟩) 1 1, .string ⟨#[97, 98, 110, 58]⟩] (w.alloc (.cells #[.string ⟨#[45, 97, 110]⟩] 9)) fun e w' => ∃ lv ov, e = .returned (.tuple #[lv, ov, .int .i64 19]) ∧ Below w.heap.size w w' := by
  refine (S.parse _ exArgs3 exSpec _ (by decide) (by decide) (by decide) (strs_new w exArgs3 (by decide))).mono ?_
  rw [ex3]
  rintro e w' ⟨⟨lv, ov, rfl, hl, hr⟩, hb⟩
  exact ⟨lv, ov, rfl, below_new hb⟩

set_option maxHeartbeats 4000000 in
set_option maxRecDepth 100000 in
theorem awake_c (S : Says) : Wakes := by
  intro w
  have HS := Lib.hid S
  have heq := eq_opt
  have hgd := guard_opt
  clear S
  go_enter Try.func5, Try.ntmps5
  go_wp2_with fail
  refine (say1 HS.out w).mono ?_
  rintro e w1 ⟨ga, ca, lo, rfl, ho1, hs1, hb1⟩
  obtain ⟨x1, c1, rfl⟩ := ptr_some hs1
  have HO1 := Lib.hid ho1; have HS1 := Lib.hid hs1
  clear ho1 hs1
  go_wp2_with fail
  refine (say2 HS.out w1).mono ?_
  rintro e w2 ⟨gm, cm, lp, rfl, ho2, hs2, hb2⟩
  obtain ⟨x2, c2, rfl⟩ := ptr_some hs2
  have HO2 := Lib.hid ho2; have HS2 := Lib.hid hs2
  clear ho2 hs2
  go_wp2_with fail
  refine (say3 HS.out w2).mono ?_
  rintro e w3 ⟨lz, oz, rfl, hb3⟩
  have HB13 : Hid (Below w1.heap.size w1 w3) := hb2.trans (hb3.mono hb2.size)
  have HB23 := Lib.hid hb3
  have HB03 : Hid (Below w.heap.size w w3) := hb1.trans (HB13.out.mono hb1.size)
  clear hb1 hb2 hb3
  have hla := HS.out.last 0 _ [(97, ⟨#[]⟩), (98, ⟨#[]⟩), (110, ⟨#[53]⟩)] 110 w3 (by decide) (own_below HO1.out HB13.out)
  go_wp2_with fail
  rw [show lastS [(97, ⟨#[]⟩), (98, ⟨#[]⟩), (110, ⟨#[53]⟩)] 110 = some ⟨#[53]⟩ from by decide] at hla
  simp only [lastV] at hla
  refine hla.mono ?_
  rintro e w4 ⟨rfl, hb4⟩
  clear hla
  have HB04 : Hid (Below w.heap.size w w4) := HB03.out.trans (hb4.mono HB03.out.size)
  have ho1 := own_below (own_below HO1.out HB13.out) hb4
  have ho2 := own_below (own_below HO2.out HB23.out) hb4
  obtain ⟨b1, o1, rfl, hs1⟩ := strs_at ((HS1.out.below HB13.out).below hb4) (by decide)
  obtain ⟨b2, o2, rfl, hs2⟩ := strs_at ((HS2.out.below HB23.out).below hb4) (by decide)
  have k1 : w4.cell? ⟨ga, 4, none⟩ = some (.int .u8 110) := (opt_cells ho1 rfl 2 (by decide)).1
  have k2 : w4.cell? ⟨ga, 5, none⟩ = some (.string ⟨#[53]⟩) := (opt_cells ho1 rfl 2 (by decide)).2
  have k3 : w4.cell? ⟨gm, 1, none⟩ = some (.string ⟨#[45, 97]⟩) := (opt_cells ho2 rfl 0 (by decide)).2
  have k4 : w4.cell? ⟨b1, o1 + 1, none⟩ = some (.string ⟨#[45, 97]⟩) := hs1 1 (by decide)
  have k5 : w4.cell? ⟨b2, o2, none⟩ = some (.string ⟨#[45, 98]⟩) := hs2 0 (by decide)
  have hh1 := HS.out.has 0 _ [(97, ⟨#[]⟩), (98, ⟨#[]⟩), (110, ⟨#[53]⟩)] 98 w4 (by decide) ho1
  rw [show hasS [(97, ⟨#[]⟩), (98, ⟨#[]⟩), (110, ⟨#[53]⟩)] 98 = true from by decide] at hh1
  have HO4 := Lib.hid ho1
  clear ho1 ho2 hs1 hs2 HO1 HO2 HS1 HS2 HB13 HB23 HB03 hb4
  go_wp2_with fail
  refine hh1.mono ?_
  rintro e w5 ⟨rfl, hb5⟩
  have hh2 := HS.out.has 0 _ [(97, ⟨#[]⟩), (98, ⟨#[]⟩), (110, ⟨#[53]⟩)] 120 w5 (by decide) (own_below HO4.out hb5)
  rw [show hasS [(97, ⟨#[]⟩), (98, ⟨#[]⟩), (110, ⟨#[53]⟩)] 120 = false from by decide] at hh2
  have HB05 : Hid (Below w.heap.size w w5) := HB04.out.trans (hb5.mono HB04.out.size)
  clear hh1 hb5
  go_wp2_with fail
  refine hh2.mono ?_
  rintro e w6 ⟨rfl, hb6⟩
  have HB06 : Hid (Below w.heap.size w w6) := HB05.out.trans (hb6.mono HB05.out.size)
  clear hh2 hb6
  go_wp2
  go_ret
  exact ⟨rfl, HB06.out⟩
end Go.Proofs.Ytgppaclfgekknaa
