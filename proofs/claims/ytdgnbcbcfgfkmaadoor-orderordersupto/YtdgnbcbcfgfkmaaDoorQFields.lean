/- By one field alone: the walk. -/
import Derived.Test.YtdgnbcbcfgfkmaaDoorQJoin
namespace Go.Proofs.YtdgnbcbcfgfkmaaDoor
open Go.RowKit

theorem less_cmp : ∀ (a b : List UInt8), Op.bytesLess a b = decide (cmpL a b = -1)
  | [], [] => by simp [cmpL, Op.bytesLess]
  | [], y :: t => by simp [cmpL, Op.bytesLess]
  | x :: s, [] => by simp [cmpL, Op.bytesLess]
  | x :: s, y :: t => by
    rw [cmpL, Op.bytesLess, less_cmp s t]
    have e1 : x < y ↔ x.toNat < y.toNat := UInt8.lt_iff_toNat_lt
    have e2 : x = y ↔ x.toNat = y.toNat := UInt8.toNat_inj.symm
    by_cases h1 : x.toNat < y.toNat
    · simp [h1, e1]
    · by_cases h2 : y.toNat < x.toNat
      · simp [h1, h2, e1, e2]; omega
      · simp [h1, h2, e1, e2]; omega
theorem less_str (x y : ByteArray) : Op.bytesLess x.toList y.toList = decide (cmpL x.data.toList y.data.toList = -1) := by
  rw [ByteArray.toList_eq, ByteArray.toList_eq]; exact less_cmp _ _
theorem gtr_str (x y : ByteArray) (w : World) : (binOp .gtr 9 (.string x) (.string y)).run Tryd.prog w = .ok (.bool (!(Op.bytesLess x.toList y.toList || x.toList == y.toList))) w := by kernel_rfl
theorem eq_str (x y : ByteArray) : (x.toList == y.toList) = decide (cmpL x.data.toList y.data.toList = 0) := by
  rw [ByteArray.toList_eq, ByteArray.toList_eq, Bool.eq_iff_iff]
  simp only [beq_iff_eq, decide_eq_true_eq]
  exact ⟨fun e => by rw [e]; exact cmpL_self _, cmpL_zero _ _⟩
theorem lists_at (l : List ByteArray) (n : Nat) (h : n < l.length) : (lists l)[n]? = some (nth l n).data.toList := by simp [lists, nth, h]
theorem opts_one2 (sep k : ByteArray) (w : World) (o : Obj) : Calls Tryd.prog 16 #[.string ⟨#[]⟩, .string sep, .slice (some ⟨w.heap.size + 1, 0, none⟩) 1 1] ((w.alloc o).alloc (.cells #[.string k] 9)) fun e w' => ∃ v, e = .returned v ∧ OpAt w' v (optsS ⟨#[]⟩ sep [k]) ∧ Below w.heap.size w w' := by
  have h := opts_one sep k (w.alloc o)
  rw [show (w.alloc o).heap.size = w.heap.size + 1 by simp] at h
  exact h.mono fun e w' ⟨v, h1, h2, h3⟩ => ⟨v, h1, h2, below_new (by rw [show (w.alloc o).heap.size = w.heap.size + 1 by simp]; exact h3)⟩
def odD (n : Nat) (sep : UInt8) : Od := ⟨fg0, some sep, [⟨(n : Int) + 1, 0, (n : Int) + 1, 0, fg0⟩]⟩
theorem exD (n : Nat) (hn : n ≤ 8) (sep : UInt8) (k : ByteArray) (hk : k.data.toList = [UInt8.ofNat (49 + n), 44, UInt8.ofNat (49 + n)]) : readS (optsS ⟨#[]⟩ ⟨#[sep]⟩ [k]) = some (odD n sep) := by
  have h1 : optsS ⟨#[]⟩ ⟨#[sep]⟩ [k] = [(116, ⟨#[sep]⟩), (107, k)] := rfl
  rw [h1]
  have h2 : flagsS [(116, ⟨#[sep]⟩), (107, k)] fg0 = fg0 := rfl
  have h3 : keysS fg0 [(116, (⟨#[sep]⟩ : ByteArray)), (107, k)] [] = some [⟨(n : Int) + 1, 0, (n : Int) + 1, 0, fg0⟩] := by
    rw [keysS, if_neg (show ¬ (116 : UInt8) = 107 by decide), keysS, if_pos rfl, hk, keyDD n hn]
    rfl
  unfold readS
  rw [h2, h3]
  rfl

theorem fields_end {OrdAt : World → Nat → Od → Prop} (S : Says OrdAt) {w : World} {p : Nat} {o : Od} {X Y : List UInt8} (hP : OrdAt w p o) (lx : X.length ≤ 2097152) (ly : Y.length ≤ 2097152) :
    Calls Tryd.prog 11 #[.pointer (some ⟨p, 0, none⟩), .slice (some ⟨w.heap.size, 0, none⟩) X.length (grownCap w.drew.drew X.length 0 5), .slice (some ⟨(Lib.bytesWorld w.drew.drew 5 ⟨X.toArray⟩).heap.size, 0, none⟩) Y.length (grownCap (Lib.bytesWorld w.drew.drew 5 ⟨X.toArray⟩) Y.length 0 5)] (Lib.bytesWorld (Lib.bytesWorld w.drew.drew 5 ⟨X.toArray⟩) 5 ⟨Y.toArray⟩) fun e w' => ∃ m : Int, e = .returned (.int .i64 m) ∧ sgI m = o.keysC X Y ∧ Below w.heap.size w w' := by
  have e0 : Below w.heap.size w w.drew.drew := ⟨rfl, rfl, rfl, Nat.le_refl _, fun _ _ => rfl⟩
  have e1 := below_bw w.drew.drew.heap.size w.drew.drew 5 ⟨X.toArray⟩ (Nat.le_refl _)
  have e2 := below_bw (Lib.bytesWorld w.drew.drew 5 ⟨X.toArray⟩).heap.size (Lib.bytesWorld w.drew.drew 5 ⟨X.toArray⟩) 5 ⟨Y.toArray⟩ (Nat.le_refl _)
  refine (S.keys p o _ _ X Y _ (S.keep _ _ _ _ (S.keep _ _ _ _ (S.keep _ _ _ _ hP e0) e1) e2) lx ly ((by_conv ⟨X.toArray⟩ w.drew.drew (by rw [arr_size]; omega)).below e2) (by_conv ⟨Y.toArray⟩ _ (by rw [arr_size]; omega))).mono ?_
  rintro e w' ⟨m, h1, _, h3, h4⟩
  exact ⟨m, h1, h3, e0.trans ((e1.trans (e2.mono e1.size)).trans (h4.mono (Nat.le_trans e1.size e2.size)))⟩

set_option maxHeartbeats 1600000 in
set_option maxRecDepth 100000 in
theorem fields_c {OrdAt : World → Nat → Od → Prop} (S : Says OrdAt) (va vb : Value) (a b : List ByteArray) (n : Int) (sep : UInt8) (w : World) (la : a.length ≤ 1048576) (lb : b.length ≤ 1048576) (ta : tot a ≤ 1048576) (tb : tot b ≤ 1048576) (hA : StrsAt w va a) (hB : StrsAt w vb b) :
    Calls Tryd.prog 6 #[va, vb, .int .i64 n, .int .u8 (sep.toNat : Int)] w fun e w' => e = .returned (.bool true) ∧ Below w.heap.size w w' := by
  have HS := Lib.hid S
  have haw := awake_c S w
  clear S
  obtain ⟨xa, ca, rfl⟩ : ∃ x c, va = .slice x a.length c := by
    rcases hA with ⟨rfl, rfl⟩ | ⟨b, off, cap, rfl, _⟩
    · exact ⟨none, 0, rfl⟩
    · exact ⟨_, _, rfl⟩
  obtain ⟨xb, cb, rfl⟩ : ∃ x c, vb = .slice x b.length c := by
    rcases hB with ⟨rfl, rfl⟩ | ⟨b, off, cap, rfl, _⟩
    · exact ⟨none, 0, rfl⟩
    · exact ⟨_, _, rfl⟩
  have HA := Lib.hid hA
  have HB := Lib.hid hB
  clear hA hB
  have h : n < 0 ∨ (0 ≤ n ∧ (a.length : Int) ≤ n) ∨ (0 ≤ n ∧ n < (a.length : Int) ∧ (b.length : Int) ≤ n) ∨ (0 ≤ n ∧ n < (a.length : Int) ∧ n < (b.length : Int) ∧ 8 < n) ∨ (0 ≤ n ∧ n < (a.length : Int) ∧ n < (b.length : Int) ∧ n ≤ 8) := by omega
  rcases h with h1 | ⟨h1, h2⟩ | ⟨h1, h2, h3⟩ | ⟨h1, h2, h3, h4⟩ | ⟨h1, h2, h3, h4⟩
  iterate 4
    · go_enter Tryd.func6, Tryd.ntmps6
      go_wp2_with (go_at_call 7; refine haw.mono ?_; rintro e w1 ⟨rfl, hb1⟩)
      go_ret
      exact ⟨rfl, hb1⟩
  obtain ⟨N, rfl⟩ : ∃ N : Nat, n = N := ⟨n.toNat, by omega⟩
  have hja := fun u (hu : Below w.heap.size w u) => joined_c _ a sep u la ta (HA.out.below hu)
  have hjb := fun u (hu : Below w.heap.size w u) => joined_c _ b sep u lb tb (HB.out.below hu)
  have HJ := Lib.hid (And.intro hja hjb)
  clear hja hjb
  have hcv := conv_sb
  go_enter Tryd.func6, Tryd.ntmps6
  go_wp2_with fail
  refine haw.mono ?_
  rintro e w1 ⟨rfl, hb1⟩
  clear haw
  go_wp2_with fail
  refine (HJ.out.1 w1 hb1).mono ?_
  rintro e w2 ⟨sa, rfl, hja, hsa, hb2⟩
  have hb02 : Below w.heap.size w w2 := hb1.trans (hb2.mono hb1.size)
  have hjb := HJ.out.2 w2 hb02
  have HB2 := Lib.hid hb02
  clear hb1 hb2 HJ hb02
  go_wp2_with fail
  refine hjb.mono ?_
  rintro e w3 ⟨sb, rfl, hjb, hsb, hb3⟩
  have HB3 : Hid (Below w.heap.size w w3) := HB2.out.trans (hb3.mono HB2.out.size)
  clear hb3 HB2
  rcases hja with rfl | ⟨rfl, hfa⟩
  · go_wp2_with fail
    go_ret
    exact ⟨rfl, HB3.out⟩
  by_cases ha0 : joinS sep (lists a) = []
  · rw [ha0]
    go_wp2_with fail
    go_ret
    exact ⟨rfl, HB3.out⟩
  rcases hjb with rfl | ⟨rfl, hfb⟩
  · have ha1 : (joinS sep (lists a)).isEmpty = false := by cases h : joinS sep (lists a) with | nil => exact absurd h ha0 | cons x l => rfl
    go_wp2_with fail
    go_ret
    exact ⟨rfl, HB3.out⟩
  by_cases hb0 : joinS sep (lists b) = []
  · rw [hb0]
    have ha1 : (joinS sep (lists a)).isEmpty = false := by cases h : joinS sep (lists a) with | nil => exact absurd h ha0 | cons x l => rfl
    go_wp2_with fail
    go_ret
    exact ⟨rfl, HB3.out⟩
  have ha1 : (joinS sep (lists a)).isEmpty = false := by cases h : joinS sep (lists a) with | nil => exact absurd h ha0 | cons x l => rfl
  have hb1 : (joinS sep (lists b)).isEmpty = false := by cases h : joinS sep (lists b) with | nil => exact absurd h hb0 | cons x l => rfl
  clear ha0 hb0
  obtain ⟨ba, oa, rfl, hca⟩ : ∃ b off, xa = some ⟨b, off, none⟩ ∧ (b < w.heap.size ∧ w.cell? ⟨b, off + N, none⟩ = some (.string (nth a N))) := by
    rcases HA.out with ⟨_, h0⟩ | ⟨b, off, cap, h, _, hb, hc⟩
    · have h5 : a.length = 0 := by rw [h0]; rfl
      omega
    · cases h; exact ⟨b, off, rfl, hb, hc N (by omega)⟩
  obtain ⟨bb, ob, rfl, hcb⟩ : ∃ b' off, xb = some ⟨b', off, none⟩ ∧ (b' < w.heap.size ∧ w.cell? ⟨b', off + N, none⟩ = some (.string (nth b N))) := by
    rcases HB.out with ⟨_, h0⟩ | ⟨b', off, cap, h, _, hb, hc⟩
    · have h5 : b.length = 0 := by rw [h0]; rfl
      omega
    · cases h; exact ⟨b', off, rfl, hb, hc N (by omega)⟩
  have HM := Lib.hid (fields_math (lists a) (lists b) N sep (nth a N).data.toList (nth b N).data.toList hfa hfb (lists_at a N (by omega)) (lists_at b N (by omega)) (odD N sep) rfl)
  clear hfa hfb
  have lja : (joinS sep (lists a)).length ≤ 2097152 := hsa
  have ljb : (joinS sep (lists b)).length ≤ 2097152 := hsb
  generalize joinS sep (lists a) = X at ha1 HM lja ⊢
  generalize joinS sep (lists b) = Y at hb1 HM ljb ⊢
  obtain ⟨c, hc⟩ : ∃ c, UInt8.ofNat (49 + N) = c := ⟨_, rfl⟩
  have hcn : 49 + (N : Int) = (c.toNat : Int) := by rw [← hc]; simp; omega
  have hc1 := conv_one c w3 (c.toNat : Int) rfl
  go_upto_region 9 with fail
  obtain ⟨W8, hW8⟩ : ∃ W, w3.alloc (.cells #[.int .u8 (c.toNat : Int)] 5) = W := ⟨_, rfl⟩
  rw [hW8]
  have hb8 : Below w.heap.size w W8 := by rw [← hW8]; exact HB3.out.alloc HB3.out.size _
  have HB8 := Lib.hid hb8
  have hc2 := conv_one sep W8 (sep.toNat : Int) rfl
  clear hc1 hW8 hb8 HB3 hcn
  go_wp2_with fail
  refine (opts_one2 ⟨#[sep]⟩ _ W8 _).mono ?_
  rintro e w4 ⟨v4, rfl, hO4, hb4⟩
  have hr := HS.out.read v4 (optsS ⟨#[]⟩ ⟨#[sep]⟩ [_]) w4 (show 2 ≤ 2097152 by decide) (by
    intro q hq
    have hq' : q ∈ [((116 : UInt8), (⟨#[sep]⟩ : ByteArray)), (107, (⟨#[c]⟩ : ByteArray) ++ ⟨#[44]⟩ ++ ⟨#[c]⟩)] := hq
    rcases List.mem_cons.1 hq' with rfl | hq'
    · exact Nat.le_of_ble_eq_true rfl
    · rw [List.mem_singleton.1 hq']; exact Nat.le_of_ble_eq_true rfl) hO4
  rw [exD N (by omega) sep _ (by rw [hc]; rfl)] at hr
  have HB4 : Hid (Below w.heap.size w w4) := HB8.out.trans (hb4.mono HB8.out.size)
  clear hO4 hb4 HB8 hc2
  go_wp2_with fail
  refine hr.mono ?_
  rintro e w5 ⟨⟨p, rfl, hP⟩, hb5⟩
  have HB5 : Hid (Below w.heap.size w w5) := HB4.out.trans (hb5.mono HB4.out.size)
  have HP := Lib.hid hP
  clear hr hb5 HB4 hP
  have da : w5.cell? ⟨ba, oa + N, none⟩ = some (.string (nth a N)) := (HB5.out.cell (p := ⟨ba, oa + N, none⟩) hca.1).trans hca.2
  have db : w5.cell? ⟨bb, ob + N, none⟩ = some (.string (nth b N)) := (HB5.out.cell (p := ⟨bb, ob + N, none⟩) hcb.1).trans hcb.2
  clear hca hcb
  generalize nth a N = x at da HM
  generalize nth b N = y at db HM
  have hr := cmpL_rng x.data.toList y.data.toList
  rcases hr with hr | hr | hr
  · have f1 : Op.bytesLess x.toList y.toList = true := by rw [less_str, hr]; rfl
    have f2 : ∀ w, (binOp .gtr 9 (.string x) (.string y)).run Tryd.prog w = .ok (.bool false) w := fun w => by rw [gtr_str, f1, eq_str, hr]; rfl
    rw [hr] at HM
    clear hr
    go_upto_region 13 with fail
    go_region
    go_upto_region 15 with fail
    go_region
    go_wp2_with fail
    refine (fields_end HS.out HP.out lja ljb).mono ?_
    rintro e w6 ⟨m, rfl, hs, hb6⟩
    rw [HM.out] at hs
    have hsm := sign_c m w6
    rw [hs] at hsm
    have HB6 : Hid (Below w.heap.size w w6) := HB5.out.trans (hb6.mono HB5.out.size)
    clear hs hb6 HB5 HP
    go_wp2_with (go_at_call 10; refine hsm.mono ?_; rintro e w' ⟨rfl, hw'⟩; rw [hw']; clear hw')
    go_ret
    exact ⟨rfl, HB6.out⟩
  · have f1 : Op.bytesLess x.toList y.toList = false := by rw [less_str, hr]; rfl
    have f2 : ∀ w, (binOp .gtr 9 (.string x) (.string y)).run Tryd.prog w = .ok (.bool false) w := fun w => by rw [gtr_str, f1, eq_str, hr]; rfl
    rw [hr] at HM
    clear hr
    go_upto_region 13 with fail
    go_region
    go_upto_region 15 with fail
    go_region
    go_wp2_with fail
    refine (fields_end HS.out HP.out lja ljb).mono ?_
    rintro e w6 ⟨m, rfl, hs, hb6⟩
    rw [HM.out] at hs
    have hsm := sign_c m w6
    rw [hs] at hsm
    have HB6 : Hid (Below w.heap.size w w6) := HB5.out.trans (hb6.mono HB5.out.size)
    clear hs hb6 HB5 HP
    go_wp2_with (go_at_call 10; refine hsm.mono ?_; rintro e w' ⟨rfl, hw'⟩; rw [hw']; clear hw')
    go_ret
    exact ⟨rfl, HB6.out⟩
  · have f1 : Op.bytesLess x.toList y.toList = false := by rw [less_str, hr]; rfl
    have f2 : ∀ w, (binOp .gtr 9 (.string x) (.string y)).run Tryd.prog w = .ok (.bool true) w := fun w => by rw [gtr_str, f1, eq_str, hr]; rfl
    rw [hr] at HM
    clear hr
    go_upto_region 13 with fail
    go_region
    go_upto_region 15 with fail
    go_region
    go_wp2_with fail
    refine (fields_end HS.out HP.out lja ljb).mono ?_
    rintro e w6 ⟨m, rfl, hs, hb6⟩
    rw [HM.out] at hs
    have hsm := sign_c m w6
    rw [hs] at hsm
    have HB6 : Hid (Below w.heap.size w w6) := HB5.out.trans (hb6.mono HB5.out.size)
    clear hs hb6 HB5 HP
    go_wp2_with (go_at_call 10; refine hsm.mono ?_; rintro e w' ⟨rfl, hw'⟩; rw [hw']; clear hw')
    go_ret
    exact ⟨rfl, HB6.out⟩
end Go.Proofs.YtdgnbcbcfgfkmaaDoor
