/- The chapter's examples. -/
import Derived.Lib.SlBytesConst
import Derived.Test.YtdgnbcbcfgfkmaaDoorQLaw2
namespace Go.Proofs.YtdgnbcbcfgfkmaaDoor
open Go.RowKit

theorem strs_new (w : World) (l : List ByteArray) (h : l.length ≤ 2097152) : StrsAt (w.alloc (.cells (l.map .string).toArray 9)) (.slice (some ⟨w.heap.size, 0, none⟩) l.length l.length) l := by
  refine .inr ⟨w.heap.size, 0, l.length, rfl, by omega, by simp, fun j hj => ?_⟩
  have hh : (w.alloc (.cells (l.map .string).toArray 9)).heap[w.heap.size]? = some (.cells (l.map .string).toArray 9) := by show (w.heap.push _)[w.heap.size]? = _; simp
  simp only [World.cell?, hh]
  simp [nth, hj]
theorem below_new {w w' : World} {o : Obj} (h : Below (w.alloc o).heap.size (w.alloc o) w') : Below w.heap.size w w' :=
  ((Below.refl w.heap.size w).alloc (Nat.le_refl _) o).trans (h.mono (by simp))
theorem by_new1 (w : World) (c : UInt8) (n : Int) (hn : n = (c.toNat : Int)) : ByAt (w.alloc (.cells #[.int .u8 n] 5 (1, 2))) (.slice (some ⟨w.heap.size, 0, none⟩) 1 1) [c] := by
  subst hn
  refine .inr ⟨w.heap.size, 0, 1, rfl, by simp, by simp, fun j hj => ?_⟩
  have hh : (w.alloc (.cells #[.int .u8 (c.toNat : Int)] 5 (1, 2))).heap[w.heap.size]? = some (.cells #[.int .u8 (c.toNat : Int)] 5 (1, 2)) := by show (w.heap.push _)[w.heap.size]? = _; simp
  have : j = 0 := by simp at hj; omega
  subst this
  simp only [World.cell?, hh]
  simp
theorem conv_const (w : World) (C : Array Value) (n c : Nat) : (convert 23 23 (.slice (some ⟨w.heap.size, 0, none⟩) n c)).run Tryd.prog (w.alloc (.cells C 5)) = .ok (.slice (some ⟨w.heap.size, 0, none⟩) n c) (w.alloc (.cells C 5 (C.size, C.size + 1))) := Lib.run_convert_bytes_const (P := Tryd.prog) w 23 5 C n c Tryd.underlying23 Tryd.underlying5

theorem conv_const2 (w : World) (o : Obj) (C : Array Value) (n c : Nat) : (convert 23 23 (.slice (some ⟨w.heap.size + 1, 0, none⟩) n c)).run Tryd.prog ((w.alloc o).alloc (.cells C 5)) = .ok (.slice (some ⟨w.heap.size + 1, 0, none⟩) n c) ((w.alloc o).alloc (.cells C 5 (C.size, C.size + 1))) := by
  have := conv_const (w.alloc o) C n c
  rw [show (w.alloc o).heap.size = w.heap.size + 1 by simp] at this
  exact this
theorem by_new2 (w : World) (o : Obj) (c : UInt8) (n : Int) (hn : n = (c.toNat : Int)) : ByAt ((w.alloc o).alloc (.cells #[.int .u8 n] 5 (1, 2))) (.slice (some ⟨w.heap.size + 1, 0, none⟩) 1 1) [c] := by
  have := by_new1 (w.alloc o) c n hn
  rw [show (w.alloc o).heap.size = w.heap.size + 1 by simp] at this
  exact this
theorem below2 {w w' : World} {o o2 : Obj} (h : Below ((w.alloc o).alloc o2).heap.size ((w.alloc o).alloc o2) w') : Below w.heap.size w w' := below_new (below_new h)

/-- The options of an example, by one key or none. -/
theorem opts_none (fl : ByteArray) (hf : fl.size ≤ 1048576) (w : World) : Calls Tryd.prog 16 #[.string fl, .string ⟨#[]⟩, .slice none 0 0] w fun e w' => ∃ v, e = .returned v ∧ OpAt w' v (optsS fl ⟨#[]⟩ []) ∧ Below w.heap.size w w' :=
  (opts_c fl ⟨#[]⟩ _ [] w hf (by decide) (.inl ⟨rfl, rfl⟩)).mono fun e w' ⟨v, h1, h2, h3⟩ => ⟨v, h1, op_own h2, h3⟩
theorem opts_one (sep k : ByteArray) (w : World) : Calls Tryd.prog 16 #[.string ⟨#[]⟩, .string sep, .slice (some ⟨w.heap.size, 0, none⟩) 1 1] (w.alloc (.cells #[.string k] 9)) fun e w' => ∃ v, e = .returned v ∧ OpAt w' v (optsS ⟨#[]⟩ sep [k]) ∧ Below w.heap.size w w' :=
  (opts_c ⟨#[]⟩ sep _ [k] _ (by decide) (by simp) (strs_new w [k] (by simp))).mono fun e w' ⟨v, h1, h2, h3⟩ => ⟨v, h1, op_own h2, below_new h3⟩
def gF : Fg := ⟨false, false, false, true, false, false, false⟩
def odF : Od := ⟨gF, none, [oneKey gF]⟩
theorem exF : readS (optsS ⟨#[102]⟩ ⟨#[]⟩ []) = some odF := by rfl
theorem exFk : odF.keysC [97] [65] = 0 := by rfl
theorem exFc : odF.cmp [97] [65] = 1 := by rfl
theorem ex1 : cmp2 [] [98] [97] = 1 := by rfl
theorem ex2 : cmp2 (optsS ⟨#[110]⟩ ⟨#[]⟩ []) [49, 48] [57] = 1 := by rfl
theorem ex3 : cmp2 (optsS ⟨#[]⟩ ⟨#[]⟩ [⟨#[50]⟩]) [120, 32, 97] [97, 32, 98] = -1 := by rfl
theorem ex4 : cmp2 (optsS ⟨#[]⟩ ⟨#[58]⟩ [⟨#[50, 46, 50, 110, 44, 50]⟩]) [97, 58, 120, 49, 48] [98, 58, 120, 57] = 1 := by rfl
theorem ex6 : cmp2 (optsS ⟨#[]⟩ ⟨#[]⟩ [⟨#[48]⟩]) [97] [98] = 2 := by rfl

set_option maxHeartbeats 1500000 in
set_option maxRecDepth 100000 in
theorem awake_c {OrdAt : World → Nat → Od → Prop} (S : Says OrdAt) (w : World) : Calls Tryd.prog 7 #[] w fun e w' => e = .returned (.bool true) ∧ Below w.heap.size w w' := by
  have HS := Lib.hid S
  have hcs := conv_const
  have hcs2 := conv_const2
  clear S
  go_enter Tryd.func7, Tryd.ntmps7
  go_wp2_with fail
  refine (opts_none ⟨#[102]⟩ (by decide) w).mono ?_
  rintro e w1 ⟨v1, rfl, hO1, hb1⟩
  have hr := HS.out.read v1 _ w1 (by decide) (by decide) hO1
  rw [exF] at hr
  clear hO1
  go_wp2_with fail
  refine hr.mono ?_
  rintro e w2 ⟨⟨p, rfl, hP2⟩, hb2⟩
  have HB2 : Hid (Below w.heap.size w w2) := hb1.trans (hb2.mono hb1.size)
  have HP2 := Lib.hid hP2
  clear hr hb1 hb2 hP2
  go_wp2_with fail
  have h1 := compares_c HS.out (.slice none 0 0) [] ⟨#[98]⟩ ⟨#[97]⟩ w2 (by decide) (by decide) (by decide) (by decide) (.inl ⟨rfl, rfl⟩)
  rw [show cmp2 [] (⟨#[98]⟩ : ByteArray).data.toList (⟨#[97]⟩ : ByteArray).data.toList = 1 from ex1] at h1
  refine h1.mono ?_
  rintro e w3 ⟨rfl, hb3⟩
  have HB3 : Hid (Below w.heap.size w w3) := HB2.out.trans (hb3.mono HB2.out.size)
  have HP3 := Lib.hid (HS.out.keep _ _ _ _ HP2.out hb3)
  clear h1 hb3 HB2 HP2
  go_wp2_with fail
  refine (opts_none ⟨#[110]⟩ (by decide) w3).mono ?_
  rintro e w4 ⟨v4, rfl, hO4, hb4⟩
  have h4 := compares_c HS.out v4 _ ⟨#[49, 48]⟩ ⟨#[57]⟩ w4 (by decide) (by decide) (by decide) (by decide) hO4
  rw [show cmp2 (optsS ⟨#[110]⟩ ⟨#[]⟩ []) (⟨#[49, 48]⟩ : ByteArray).data.toList (⟨#[57]⟩ : ByteArray).data.toList = 1 from ex2] at h4
  have HB4 := Lib.hid hb4
  clear hO4 hb4
  go_wp2_with fail
  refine h4.mono ?_
  rintro e w5 ⟨rfl, hb5⟩
  have hb35 : Below w3.heap.size w3 w5 := HB4.out.trans (hb5.mono HB4.out.size)
  have HB5 : Hid (Below w.heap.size w w5) := HB3.out.trans (hb35.mono HB3.out.size)
  have HP5 := Lib.hid (HS.out.keep _ _ _ _ HP3.out hb35)
  clear h4 hb5 hb35 HB4 HB3 HP3
  go_wp2_with fail
  refine (opts_one ⟨#[]⟩ ⟨#[50]⟩ w5).mono ?_
  rintro e w6 ⟨v6, rfl, hO6, hb6⟩
  have h6 := compares_c HS.out v6 _ ⟨#[120, 32, 97]⟩ ⟨#[97, 32, 98]⟩ w6 (by decide) (by decide) (by decide) (by decide) hO6
  rw [show cmp2 (optsS ⟨#[]⟩ ⟨#[]⟩ [⟨#[50]⟩]) (⟨#[120, 32, 97]⟩ : ByteArray).data.toList (⟨#[97, 32, 98]⟩ : ByteArray).data.toList = -1 from ex3] at h6
  have HB6 := Lib.hid hb6
  clear hO6 hb6
  go_wp2_with fail
  refine h6.mono ?_
  rintro e w7 ⟨rfl, hb7⟩
  have hb57 : Below w5.heap.size w5 w7 := HB6.out.trans (hb7.mono HB6.out.size)
  have HB7 : Hid (Below w.heap.size w w7) := HB5.out.trans (hb57.mono HB5.out.size)
  have HP7 := Lib.hid (HS.out.keep _ _ _ _ HP5.out hb57)
  clear h6 hb7 hb57 HB6 HB5 HP5
  go_wp2_with fail
  refine (opts_one ⟨#[58]⟩ ⟨#[50, 46, 50, 110, 44, 50]⟩ w7).mono ?_
  rintro e w8 ⟨v8, rfl, hO8, hb8⟩
  have h8 := compares_c HS.out v8 _ ⟨#[97, 58, 120, 49, 48]⟩ ⟨#[98, 58, 120, 57]⟩ w8 (by decide) (by decide) (by decide) (by decide) hO8
  rw [show cmp2 (optsS ⟨#[]⟩ ⟨#[58]⟩ [⟨#[50, 46, 50, 110, 44, 50]⟩]) (⟨#[97, 58, 120, 49, 48]⟩ : ByteArray).data.toList (⟨#[98, 58, 120, 57]⟩ : ByteArray).data.toList = 1 from ex4] at h8
  have HB8 := Lib.hid hb8
  clear hO8 hb8
  go_wp2_with fail
  refine h8.mono ?_
  rintro e w9 ⟨rfl, hb9⟩
  have hb79 : Below w7.heap.size w7 w9 := HB8.out.trans (hb9.mono HB8.out.size)
  have HB9 : Hid (Below w.heap.size w w9) := HB7.out.trans (hb79.mono HB7.out.size)
  have HP9 := Lib.hid (HS.out.keep _ _ _ _ HP7.out hb79)
  clear h8 hb9 hb79 HB8 HB7 HP7
  go_wp2_with fail
  have ea : Below w9.heap.size w9 ((w9.alloc (.cells #[.int .u8 97] 5 (1, 2))).alloc (.cells #[.int .u8 65] 5 (1, 2))) := below2 (Below.refl _ _)
  have eb := (Below.refl _ (w9.alloc (.cells #[.int .u8 97] 5 (1, 2)))).alloc (Nat.le_refl _) (.cells #[.int .u8 65] 5 (1, 2))
  have hk := HS.out.keys p odF _ _ [97] [65] _ (HS.out.keep _ _ _ _ HP9.out ea) (by decide) (by decide) ((by_new1 w9 97 97 rfl).below eb) (by_new2 w9 _ 65 65 rfl)
  rw [exFk] at hk
  refine hk.mono ?_
  rintro e w10 ⟨n, rfl, hn, hs, hb10⟩
  have hn0 : n = 0 := by unfold sgI at hs; split at hs; (· omega); split at hs <;> omega
  subst hn0
  have h910 : Below w9.heap.size w9 w10 := below2 hb10
  have HB10 : Hid (Below w.heap.size w w10) := HB9.out.trans (h910.mono HB9.out.size)
  have HP10 := Lib.hid (HS.out.keep _ _ _ _ HP9.out h910)
  clear hk hs hn hb10 h910 ea eb HB9 HP9
  go_wp2_with fail
  have ea : Below w10.heap.size w10 ((w10.alloc (.cells #[.int .u8 97] 5 (1, 2))).alloc (.cells #[.int .u8 65] 5 (1, 2))) := below2 (Below.refl _ _)
  have eb := (Below.refl _ (w10.alloc (.cells #[.int .u8 97] 5 (1, 2)))).alloc (Nat.le_refl _) (.cells #[.int .u8 65] 5 (1, 2))
  have hk := HS.out.cmp p odF _ _ [97] [65] _ (HS.out.keep _ _ _ _ HP10.out ea) (by decide) (by decide) ((by_new1 w10 97 97 rfl).below eb) (by_new2 w10 _ 65 65 rfl)
  rw [exFc] at hk
  refine hk.mono ?_
  rintro e w11 ⟨n, rfl, hn, hs, hb11⟩
  have hn0 : 0 < n := by unfold sgI at hs; split at hs; (· omega); split at hs <;> omega
  have h1011 : Below w10.heap.size w10 w11 := below2 hb11
  have HB11 : Hid (Below w.heap.size w w11) := HB10.out.trans (h1011.mono HB10.out.size)
  clear hk hs hn hb11 h1011 ea eb HB10 HP10
  go_wp2_with fail
  refine (opts_one ⟨#[]⟩ ⟨#[48]⟩ w11).mono ?_
  rintro e w12 ⟨v12, rfl, hO12, hb12⟩
  have h12 := compares_c HS.out v12 _ ⟨#[97]⟩ ⟨#[98]⟩ w12 (by decide) (by decide) (by decide) (by decide) hO12
  rw [show cmp2 (optsS ⟨#[]⟩ ⟨#[]⟩ [⟨#[48]⟩]) (⟨#[97]⟩ : ByteArray).data.toList (⟨#[98]⟩ : ByteArray).data.toList = 2 from ex6] at h12
  have HB12 : Hid (Below w.heap.size w w12) := HB11.out.trans (hb12.mono HB11.out.size)
  clear hO12 hb12 HB11
  go_wp2_with fail
  refine h12.mono ?_
  rintro e w13 ⟨rfl, hb13⟩
  have HB13 : Hid (Below w.heap.size w w13) := HB12.out.trans (hb13.mono HB12.out.size)
  clear h12 hb13 HB12
  go_wp2
  go_ret
  exact ⟨rfl, HB13.out⟩
end Go.Proofs.YtdgnbcbcfgfkmaaDoor
