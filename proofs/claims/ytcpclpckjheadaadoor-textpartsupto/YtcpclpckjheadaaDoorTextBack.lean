/- The walk of the law on lines put together again and numbers read back. -/
import Derived.Test.YtcpclpckjheadaaDoorAwake
import Derived.Test.YtcpclpckjheadaaDoorBackMath
import Derived.Laws.AppendOwnNone
namespace Go.Proofs.YtcpclpckjheadaaDoor
open Go.RowKit

theorem BytesAt.mono {n₀ n₁ : Nat} {W : World} {v : Value} {l : List UInt8} (hn : n₀ ≤ n₁) : BytesAt n₀ W v l → BytesAt n₁ W v l
  | .inl e => .inl e
  | .inr ⟨b, off, cap, e, hcap, hb, hc⟩ => .inr ⟨b, off, cap, e, hcap, Nat.lt_of_lt_of_le hb hn, hc⟩

theorem info5 : (Tryd.prog.info? 5).map (fun i => (i.zero, i.size, i.bytes)) = some (some (.int .u8 0), 1, 1) := by kernel_rfl

theorem u8s_length (l : List UInt8) : (u8s l).length = l.length := by simp [u8s]
theorem u8s_append (a b : List UInt8) : u8s (a ++ b) = u8s a ++ u8s b := by simp [u8s]

/-- The lines that have been put together. -/
def joined (ls : List (List UInt8)) : List UInt8 := ls.flatMap (· ++ [10])
theorem joined_take (ls : List (List UInt8)) (k : Nat) (h : k < ls.length) : joined (ls.take (k + 1)) = joined (ls.take k) ++ ls[k] ++ [10] := by
  unfold joined
  rw [List.take_succ_eq_append_getElem h, List.flatMap_append]
  simp
theorem joined_le (ls : List (List UInt8)) (k : Nat) : (joined (ls.take k)).length ≤ (joined ls).length := by
  have e : joined ls = joined (ls.take k) ++ joined (ls.drop k) := by
    unfold joined
    rw [← List.flatMap_append, List.take_append_drop]
  rw [e, List.length_append]; omega
theorem joined_count : ∀ ls : List (List UInt8), ls.length ≤ (joined ls).length
  | [] => Nat.le_refl _
  | p :: ls => by
    have ih := joined_count ls
    unfold joined at ih ⊢
    rw [List.flatMap_cons, List.length_append, List.length_append, List.length_cons]
    simp only [List.length_cons, List.length_nil]
    omega
theorem own_ge {W : World} {base e n : Nat} {v : Value} {xs : List Value} (h : W.ownsRow base e 1 v n xs) (j : Nat) (ej : v.ownBlock = some j) : base ≤ j := by
  rcases h.2 with ⟨rfl, _⟩ | ⟨g, cap, cur, rfl, hb, _⟩
  · simp [Value.ownBlock] at ej
  · obtain rfl : g = j := by simpa [Value.ownBlock] using ej
    exact hb
theorem u8s_one (l : List UInt8) : ∀ u ∈ u8s l, u.oneCell' = true := by
  intro u hu
  obtain ⟨x, _, rfl⟩ := List.mem_map.1 hu
  rfl
theorem u8s_cells {W : World} {g : Nat} {l : List UInt8} (h : ∀ j, j < l.length → W.cell? ⟨g, j, none⟩ = some (.int .u8 ((l[j]?.getD 0).toNat : Int))) : ∀ j u, (u8s l)[j]? = some u → W.cell? ((⟨g, 0, none⟩ : Addr).add j) = some u := by
  intro j u hu
  have hj : j < l.length := by
    have := (List.getElem?_eq_some_iff.1 hu).1
    rwa [u8s_length] at this
  rw [Lib.add_plain, Nat.zero_add, h j hj]
  rw [u8s, List.getElem?_map, List.getElem?_eq_getElem hj] at hu
  rw [List.getElem?_eq_getElem hj]
  simpa using hu
theorem ba_ext2 {a b : ByteArray} (h : a.data.toList = b.data.toList) : a = b := by
  cases a with | mk d => cases b with | mk d' => cases d with | mk l => cases d' with | mk l' => cases h; rfl
theorem tailL_le (l : List UInt8) : (tailL l).length ≤ 1 := by unfold tailL; split <;> simp

theorem digBack10 (u : Nat) (hu : u ≤ 9223372036854775807) (w : World) (hL : Laid w) : Calls Tryd.prog 17 #[.int .i64 u, .int .i64 10] w fun e w' => e = .returned (.string ⟨(dgB 10 u).toArray⟩) ∧ Below w.heap.size w w' := by
  have h := digits_any u 10 (by omega) (by omega) w hL.t7 hL.t15 hL.size hL.p10
  rw [show digAt 10 (u : Int) = dgB 10 u from by rw [digAt, if_neg (by decide), if_pos rfl, digL_nonneg]] at h
  exact h
theorem digBack8 (u : Nat) (hu : u ≤ 9223372036854775807) (w : World) (hL : Laid w) : Calls Tryd.prog 17 #[.int .i64 u, .int .i64 8] w fun e w' => e = .returned (.string ⟨(dgB 8 u).toArray⟩) ∧ Below w.heap.size w w' := by
  have h := digits_any u 8 (by omega) (by omega) w hL.t7 hL.t15 hL.size hL.p10
  rw [show digAt 8 (u : Int) = dgB 8 u from by rw [digAt, if_pos rfl, digL_nonneg]] at h
  exact h
theorem dgB_maxLen (B u : Nat) (hB : 2 ≤ B) (hu : u ≤ 9223372036854775807) : (⟨(dgB B u).toArray⟩ : ByteArray).size ≤ maxLen := by
  have h := dgB_length B hB 63 u (by omega)
  show (dgB B u).length ≤ maxLen
  unfold maxLen; omega
theorem numBack (u : Nat) (hu : u ≤ 9223372036854775807) (w : World) : Calls Tryd.prog 13 #[.string ⟨(dgB 10 u).toArray⟩, .int .i64 u] w fun e w' => e = .returned (.tuple #[.int .i64 u, .bool true]) ∧ w' = w := by
  have h := number_any ⟨(dgB 10 u).toArray⟩ u w (dgB_maxLen 10 u (by omega) hu) (by omega) (by omega)
  have e : rdAll 10 (u : Int) (⟨(dgB 10 u).toArray⟩ : ByteArray).data.toList = ((u : Int), true) := by
    have := rdAll_dgB (B := 10) (.inr rfl) (u : Int) u
    rw [if_pos (Int.le_refl _)] at this
    exact this
  rw [e] at h
  exact h
theorem numNot (u : Nat) (hu : u ≤ 9223372036854775807) (w : World) : Calls Tryd.prog 13 #[.string ⟨(dgB 10 u).toArray⟩, .int .i64 ((u : Int) - 1)] w fun e w' => e = .returned (.tuple #[.int .i64 0, .bool false]) ∧ w' = w := by
  have h := number_any ⟨(dgB 10 u).toArray⟩ ((u : Int) - 1) w (dgB_maxLen 10 u (by omega) hu) (by omega) (by omega)
  have e : rdAll 10 ((u : Int) - 1) (⟨(dgB 10 u).toArray⟩ : ByteArray).data.toList = (0, false) := by
    have := rdAll_dgB (B := 10) (.inr rfl) ((u : Int) - 1) u
    rw [if_neg (by omega)] at this
    exact this
  rw [e] at h
  exact h
theorem octBack (u : Nat) (hu : u ≤ 9223372036854775807) (w : World) : Calls Tryd.prog 15 #[.string ⟨(dgB 8 u).toArray⟩, .int .i64 u] w fun e w' => e = .returned (.tuple #[.int .i64 u, .bool true]) ∧ w' = w := by
  have h := octal_any ⟨(dgB 8 u).toArray⟩ u w (dgB_maxLen 8 u (by omega) hu) (by omega) (by omega)
  have e : rdAll 8 (u : Int) (⟨(dgB 8 u).toArray⟩ : ByteArray).data.toList = ((u : Int), true) := by
    have := rdAll_dgB (B := 8) (.inl rfl) (u : Int) u
    rw [if_pos (Int.le_refl _)] at this
    exact this
  rw [e] at h
  exact h

set_option maxHeartbeats 8000000 in
set_option maxRecDepth 100000 in
theorem textBack_any (a : Option Addr) (len cap : Nat) (bs : List UInt8) (n : Int) (w : World) (hL : Laid w) (hB : BytesAt w.heap.size w (.slice a len cap) bs) (hlen : bs.length ≤ 1048576) (h1 : -9223372036854775808 ≤ n) (h2 : n ≤ 9223372036854775807) :
    Calls Tryd.prog 6 #[.slice a len cap, .int .i64 n] w fun r w' => r = .returned (.bool true) ∧ Below w.heap.size w w' := by
  have HL := Lib.hid hL
  have HB := Lib.hid hB
  clear hL hB
  obtain ⟨i5, hi5, hz0, hz1, hz2⟩ := info_parts info5
  go_enter Tryd.func6, Tryd.ntmps6
  go_wp2_with fail
  refine (awake_any _ HL.out).mono ?_
  rintro r W1 ⟨rfl, hb1⟩
  have hsz := HL.out.size
  have HL1 := Lib.hid (HL.out.below hb1 hsz)
  have HB1 := Lib.hid (HB.out.below hb1)
  clear HL HB
  go_wp2_with fail
  refine (lines_any a len cap bs hlen _ (HB1.out.mono hb1.size)).mono ?_
  rintro r W2 ⟨v, vs, rfl, hown, hrows, hb2⟩
  have hbw : Below w.heap.size w W2 := hb1.trans (hb2.mono hb1.size)
  have HL2 := Lib.hid (HL1.out.below hb2 HL1.out.size)
  have HB2 := Lib.hid (HB1.out.below (hb2.mono hb1.size))
  have hjn : (joined (kept (pcs feedB bs))).length ≤ 1048577 := by
    have h := congrArg List.length (lines_join bs)
    have h' := tailL_le bs
    rw [List.length_append] at h
    unfold joined; omega
  have hll : (kept (pcs feedB bs)).length ≤ 1048577 := Nat.le_trans (joined_count _) hjn
  have hnf := lines_noFeed bs
  have HJ : Hid (joined (kept (pcs feedB bs)) = bs ++ tailL bs) := lines_join bs
  have hWn : w.heap.size ≤ W2.heap.size := hbw.size
  clear hb1 hb2 HL1 HB1
  generalize kept (pcs feedB bs) = ls at hown hrows hjn hnf HJ hll
  obtain ⟨va, vc, rfl⟩ := own_slice hown
  have HOWN := Lib.hid hown
  have HROWS := Lib.hid hrows
  have HNF := Lib.hid hnf
  clear hown hrows hnf
  go_wp2
  go_loopw [7, 8] (fun all i wr => ∃ (k : Nat), k ≤ ls.length ∧ i = .int .i64 k ∧ wr.ownsRow W2.heap.size 5 1 all (joined (ls.take k)).length (u8s (joined (ls.take k))) ∧ Below W2.heap.size W2 wr) (fun _ i _ => ls.length - (intOf i).toNat)
  case atStart => exact ⟨0, Nat.zero_le _, rfl, World.ownsRow_nil _ _ _ _, Below.refl _ _⟩
  case round =>
    obtain ⟨k, hk, rfl, hall, hbr⟩ := hrel
    obtain ⟨xa, xc, rfl⟩ := own_slice hall
    have hjk := joined_le ls k
    by_cases hlt : k < ls.length
    · obtain ⟨g, rfl⟩ : ∃ g, va = some ⟨g, 0, none⟩ := by
        rcases HOWN.out.2 with ⟨h, h0⟩ | ⟨g, _, _, h, _⟩
        · omega
        · cases h; exact ⟨g, rfl⟩
      obtain ⟨lv, hlv, hrl⟩ := HROWS.out.2 k hlt
      have hc2 : W2.cell? ⟨g, k, none⟩ = some lv := (own_cell HOWN.out k hlt).trans hlv
      have hcw : wr.cell? ⟨g, k, none⟩ = some lv := (hbr.cell (p := ⟨g, k, none⟩) (lt_of_cell hc2)).trans hc2
      have hnfk := HNF.out ls[k] (List.getElem_mem hlt)
      have HJK := Lib.hid (joined_take ls k hlt)
      have hjk1 := joined_le ls (k + 1)
      rw [HJK.out, List.length_append, List.length_append] at hjk1
      generalize ls[k] = pl at hrl hnfk HJK hjk1
      simp only [List.length_cons, List.length_nil] at hjk1
      rcases hrl.2 with ⟨rfl, hp0⟩ | ⟨gl, cl, cur, rfl, hgl, hgb, hle, hcl, hsz', htk⟩
      · have hp : pl = [] := List.eq_nil_of_length_eq_zero hp0
        subst hp
        have HALL := Lib.hid hall
        clear hc2 hlv hrl hall
        go_wp2
        go_loop [9] (fun j => j = .int .i64 0) (fun _ => 0)
        case atStart => rfl
        case round =>
          obtain rfl := hrel
          go_wp2_with (first
            | (at_builtin; refine wpList_append_own_none rfl (.tmp 44) (.tmp 48) 22 rfl W2.heap.size 5 i5 1 Tryd.underlying22 hi5 _ _ _ rfl HALL.out rfl ?_)
            | (at_builtin; refine wpList_append_own _ rfl (.tmp 49) (.tmp 50) 22 rfl W2.heap.size 5 i5 (.int .u8 0) 1 1 Tryd.underlying22 hi5 hz0 hz1 hz2 rfl (by decide) _ _ _ rfl (HALL.out.alloc _) ⟨wr.heap.size, 0, none⟩ 1 1 [.int .u8 10] rfl rfl (cell_one_new _ _ _) (by simp [Value.oneCell']) (by unfold maxLen; omega) (by omega) (by have := hbr.size; simp; omega) ?_; intro v2 w2 hown2 hgrow2 _; obtain ⟨za, zc, rfl⟩ := own_slice hown2))
          have hbw2 : Below W2.heap.size W2 w2 := (hbr.alloc hbr.size _).grown hgrow2 (by have := hbr.size; simp; omega) (fun j ej => own_ge HALL.out j ej)
          refine ⟨⟨k + 1, by omega, by go_num, ?_, hbw2⟩, by simp [intOf]; omega⟩
          rw [HJK.out, List.append_nil, List.length_append, u8s_append]
          exact hown2
      · have hcell : ∀ j, j < pl.length → wr.cell? ⟨gl, j, none⟩ = some (.int .u8 ((pl[j]?.getD 0).toNat : Int)) := fun j hj => by
          have h2 : W2.cell? ⟨gl, j, none⟩ = some (.int .u8 ((pl[j]?.getD 0).toNat : Int)) := by rw [own_cell hrl j hj]; simp [u8s, hj]
          exact (hbr.cell (p := ⟨gl, j, none⟩) (lt_of_cell h2)).trans h2
        have HCELL := Lib.hid hcell
        have HALL := Lib.hid hall
        have hunf : maxLen = 9223372036854775807 := by decide
        have hcl' : cl ≤ 9223372036854775807 := by rw [← hunf]; exact hcl
        clear hc2 hlv hrl hgb htk hcell hall hsz' hunf hcl
        go_wp2
        go_loop [9] (fun j => ∃ q : Nat, q ≤ pl.length ∧ j = .int .i64 q) (fun j => pl.length - (intOf j).toNat)
        case atStart => exact ⟨0, Nat.zero_le _, rfl⟩
        case round =>
          obtain ⟨q, hq, rfl⟩ := hrel
          by_cases hql : q < pl.length
          · have hcq := HCELL.out q hql
            have hne : (((pl[q]?.getD 0).toNat : Int) == 10) = false := by
              have := hnfk (pl[q]?.getD 0) (by rw [List.getElem?_eq_getElem hql]; exact List.getElem_mem hql)
              exact this
            generalize pl[q]?.getD 0 = xb at hcq hne
            go_wp2
            exact ⟨⟨q + 1, by omega, by go_num⟩, by simp [intOf]; omega⟩
          · go_wp2_with (first
              | (at_builtin; refine wpList_append_own _ rfl (.tmp 44) (.tmp 48) 22 rfl W2.heap.size 5 i5 (.int .u8 0) 1 1 Tryd.underlying22 hi5 hz0 hz1 hz2 rfl (by decide) _ _ _ rfl HALL.out ⟨gl, 0, none⟩ pl.length cl (u8s pl) rfl (by rw [u8s_length, Nat.mul_one]) (u8s_cells HCELL.out) (u8s_one pl) (by unfold maxLen; omega) (by omega) hbr.size ?_; intro v1 w1 hown1 hgrow1 _; obtain ⟨ya, yc, rfl⟩ := own_slice hown1; have hbw1 : Below W2.heap.size W2 w1 := hbr.grown hgrow1 hbr.size (fun j ej => own_ge HALL.out j ej))
              | (at_builtin; refine wpList_append_own _ rfl (.tmp 49) (.tmp 50) 22 rfl W2.heap.size 5 i5 (.int .u8 0) 1 1 Tryd.underlying22 hi5 hz0 hz1 hz2 rfl (by decide) _ _ _ rfl (hown1.alloc _) ⟨w1.heap.size, 0, none⟩ 1 1 [.int .u8 10] rfl rfl (cell_one_new _ _ _) (by simp [Value.oneCell']) (by unfold maxLen; omega) (by omega) (by have := hbw1.size; simp; omega) ?_; intro v2 w2 hown2 hgrow2 _; obtain ⟨za, zc, rfl⟩ := own_slice hown2))
            have hbw2 : Below W2.heap.size W2 w2 := (hbw1.alloc hbw1.size _).grown hgrow2 (by have := hbw1.size; simp; omega) (fun j ej => own_ge hown1 j ej)
            refine ⟨⟨k + 1, by omega, by go_num, ?_, hbw2⟩, by simp [intOf]; omega⟩
            rw [HJK.out, List.length_append, List.length_append, u8s_append, u8s_append]
            exact hown2
    · obtain rfl : k = ls.length := by omega
      rw [List.take_length] at hjk
      have hJ : joined (ls.take ls.length) = bs ++ tailL bs := by rw [List.take_length]; exact HJ.out
      have cvA : (convert 22 9 (.slice xa (joined (ls.take ls.length)).length xc)).run Tryd.prog wr = .ok (.string ⟨(bs ++ tailL bs).toArray⟩) wr := by
        have h := conv_own hall rfl
        rw [hJ] at h ⊢
        exact h
      have cvA' : (convert 22 9 (.slice xa (joined ls).length xc)).run Tryd.prog wr = .ok (.string ⟨(bs ++ tailL bs).toArray⟩) wr := by
        rw [List.take_length] at cvA
        exact cvA
      have cvB := conv_at (HB2.out.below (hbr.mono hWn))
      have HBw := Lib.hid (HB2.out.below (hbr.mono hWn))
      have HLr := Lib.hid (HL2.out.below hbr HL2.out.size)
      have hbe : Below w.heap.size w wr := hbw.trans (hbr.mono hWn)
      have hcat : (⟨bs.toArray⟩ ++ ⟨#[10]⟩ : ByteArray) = ⟨(bs ++ [10]).toArray⟩ := by apply ba_ext2; simp
      clear hall hJ HJ HOWN HROWS HNF HL2 HB2 hbr hbw
      obtain ⟨u, hu⟩ : ∃ u : Nat, (n = (u : Int) ∨ (n < 0 ∧ -(n + 1) = (u : Int))) := by
        by_cases hn : 0 ≤ n
        · exact ⟨n.toNat, .inl (by omega)⟩
        · exact ⟨(-(n + 1)).toNat, .inr (by omega)⟩
      have hu63 : u ≤ 9223372036854775807 := by omega
      rcases HBw.out with ⟨h, hbs⟩ | ⟨b, off, cap', h, hcp, hbb, hcc⟩
      · cases h
        subst hbs
        rw [show ([] ++ tailL [] : List UInt8) = [] from rfl] at cvA cvA'
        rcases hu with rfl | ⟨hneg, he⟩
        · go_wp2_with fail
          refine (digBack10 u hu63 _ HLr.out).mono ?_
          rintro r W5 ⟨rfl, hb5⟩
          have HL5 := Lib.hid (HLr.out.below hb5 HLr.out.size)
          have hbf : Below w.heap.size w W5 := hbe.trans (hb5.mono hbe.size)
          clear cvA cvA' cvB hcat hb5
          go_wp2_with fail
          refine (numBack u hu63 _).mono ?_
          rintro r W5' ⟨rfl, rfl⟩
          go_wp2_with fail
          refine (numNot u hu63 _).mono ?_
          rintro r W5' ⟨rfl, rfl⟩
          go_wp2_with fail
          refine (digBack8 u hu63 _ HL5.out).mono ?_
          rintro r W6 ⟨rfl, hb6⟩
          go_wp2_with fail
          refine (octBack u hu63 _).mono ?_
          rintro r W6' ⟨rfl, rfl⟩
          have euu : ((u : Int) == (u : Int)) = true := beq_self_eq_true _
          go_wp2
          go_ret
          exact ⟨rfl, hbf.trans (hb6.mono hbf.size)⟩
        · go_wp2_with fail
          refine (digBack10 u hu63 _ HLr.out).mono ?_
          rintro r W5 ⟨rfl, hb5⟩
          have HL5 := Lib.hid (HLr.out.below hb5 HLr.out.size)
          have hbf : Below w.heap.size w W5 := hbe.trans (hb5.mono hbe.size)
          clear cvA cvA' cvB hcat hb5
          go_wp2_with fail
          refine (numBack u hu63 _).mono ?_
          rintro r W5' ⟨rfl, rfl⟩
          go_wp2_with fail
          refine (numNot u hu63 _).mono ?_
          rintro r W5' ⟨rfl, rfl⟩
          go_wp2_with fail
          refine (digBack8 u hu63 _ HL5.out).mono ?_
          rintro r W6 ⟨rfl, hb6⟩
          go_wp2_with fail
          refine (octBack u hu63 _).mono ?_
          rintro r W6' ⟨rfl, rfl⟩
          have euu : ((u : Int) == (u : Int)) = true := beq_self_eq_true _
          go_wp2
          go_ret
          exact ⟨rfl, hbf.trans (hb6.mono hbf.size)⟩
      · cases h
        by_cases h0 : bs.length = 0
        · have hbs : bs = [] := List.eq_nil_of_length_eq_zero h0
          subst hbs
          rw [show ([] ++ tailL [] : List UInt8) = [] from rfl] at cvA cvA'
          have cvB0 : (convert 22 9 (.slice (some ⟨b, off, none⟩) 0 cap)).run Tryd.prog wr = .ok (.string ⟨#[]⟩) wr := cvB
          clear cvB
          have cvB := cvB0
          rcases hu with rfl | ⟨hneg, he⟩
          · go_wp2_with fail
            refine (digBack10 u hu63 _ HLr.out).mono ?_
            rintro r W5 ⟨rfl, hb5⟩
            have HL5 := Lib.hid (HLr.out.below hb5 HLr.out.size)
            have hbf : Below w.heap.size w W5 := hbe.trans (hb5.mono hbe.size)
            clear cvA cvA' cvB hcat hb5
            go_wp2_with fail
            refine (numBack u hu63 _).mono ?_
            rintro r W5' ⟨rfl, rfl⟩
            go_wp2_with fail
            refine (numNot u hu63 _).mono ?_
            rintro r W5' ⟨rfl, rfl⟩
            go_wp2_with fail
            refine (digBack8 u hu63 _ HL5.out).mono ?_
            rintro r W6 ⟨rfl, hb6⟩
            go_wp2_with fail
            refine (octBack u hu63 _).mono ?_
            rintro r W6' ⟨rfl, rfl⟩
            have euu : ((u : Int) == (u : Int)) = true := beq_self_eq_true _
            go_wp2
            go_ret
            exact ⟨rfl, hbf.trans (hb6.mono hbf.size)⟩
          · go_wp2_with fail
            refine (digBack10 u hu63 _ HLr.out).mono ?_
            rintro r W5 ⟨rfl, hb5⟩
            have HL5 := Lib.hid (HLr.out.below hb5 HLr.out.size)
            have hbf : Below w.heap.size w W5 := hbe.trans (hb5.mono hbe.size)
            clear cvA cvA' cvB hcat hb5
            go_wp2_with fail
            refine (numBack u hu63 _).mono ?_
            rintro r W5' ⟨rfl, rfl⟩
            go_wp2_with fail
            refine (numNot u hu63 _).mono ?_
            rintro r W5' ⟨rfl, rfl⟩
            go_wp2_with fail
            refine (digBack8 u hu63 _ HL5.out).mono ?_
            rintro r W6 ⟨rfl, hb6⟩
            go_wp2_with fail
            refine (octBack u hu63 _).mono ?_
            rintro r W6' ⟨rfl, rfl⟩
            have euu : ((u : Int) == (u : Int)) = true := beq_self_eq_true _
            go_wp2
            go_ret
            exact ⟨rfl, hbf.trans (hb6.mono hbf.size)⟩
        · have hpos : 0 < bs.length := by omega
          have hcl : wr.cell? ⟨b, off + (bs.length - 1), none⟩ = some (.int .u8 ((bs[bs.length - 1]?.getD 0).toNat : Int)) := hcc (bs.length - 1) (by omega)
          by_cases hf : feedB (bs[bs.length - 1]?.getD 0) = true
          · have ht : tailL bs = [] := by unfold tailL; rw [if_neg (by rw [hf]; simp)]
            rw [ht, List.append_nil] at cvA cvA'
            have hnq : (((bs[bs.length - 1]?.getD 0).toNat : Int) != 10) = false := by rw [bne, show (((bs[bs.length - 1]?.getD 0).toNat : Int) == 10) = true from hf]; rfl
            generalize bs[bs.length - 1]?.getD 0 = xb at hcl hnq
            clear hf ht hcc
            rcases hu with rfl | ⟨hneg, he⟩
            · go_wp2_with fail
              refine (digBack10 u hu63 _ HLr.out).mono ?_
              rintro r W5 ⟨rfl, hb5⟩
              have HL5 := Lib.hid (HLr.out.below hb5 HLr.out.size)
              have hbf : Below w.heap.size w W5 := hbe.trans (hb5.mono hbe.size)
              clear cvA cvA' cvB hcat hb5
              go_wp2_with fail
              refine (numBack u hu63 _).mono ?_
              rintro r W5' ⟨rfl, rfl⟩
              go_wp2_with fail
              refine (numNot u hu63 _).mono ?_
              rintro r W5' ⟨rfl, rfl⟩
              go_wp2_with fail
              refine (digBack8 u hu63 _ HL5.out).mono ?_
              rintro r W6 ⟨rfl, hb6⟩
              go_wp2_with fail
              refine (octBack u hu63 _).mono ?_
              rintro r W6' ⟨rfl, rfl⟩
              have euu : ((u : Int) == (u : Int)) = true := beq_self_eq_true _
              go_wp2
              go_ret
              exact ⟨rfl, hbf.trans (hb6.mono hbf.size)⟩
            · go_wp2_with fail
              refine (digBack10 u hu63 _ HLr.out).mono ?_
              rintro r W5 ⟨rfl, hb5⟩
              have HL5 := Lib.hid (HLr.out.below hb5 HLr.out.size)
              have hbf : Below w.heap.size w W5 := hbe.trans (hb5.mono hbe.size)
              clear cvA cvA' cvB hcat hb5
              go_wp2_with fail
              refine (numBack u hu63 _).mono ?_
              rintro r W5' ⟨rfl, rfl⟩
              go_wp2_with fail
              refine (numNot u hu63 _).mono ?_
              rintro r W5' ⟨rfl, rfl⟩
              go_wp2_with fail
              refine (digBack8 u hu63 _ HL5.out).mono ?_
              rintro r W6 ⟨rfl, hb6⟩
              go_wp2_with fail
              refine (octBack u hu63 _).mono ?_
              rintro r W6' ⟨rfl, rfl⟩
              have euu : ((u : Int) == (u : Int)) = true := beq_self_eq_true _
              go_wp2
              go_ret
              exact ⟨rfl, hbf.trans (hb6.mono hbf.size)⟩
          · have hf' : feedB (bs[bs.length - 1]?.getD 0) = false := by simpa using hf
            have ht : tailL bs = [10] := by unfold tailL; rw [if_pos ⟨hpos, hf'⟩]
            rw [ht] at cvA cvA'
            have hnq : (((bs[bs.length - 1]?.getD 0).toNat : Int) != 10) = true := by rw [bne, show (((bs[bs.length - 1]?.getD 0).toNat : Int) == 10) = false from hf']; rfl
            generalize bs[bs.length - 1]?.getD 0 = xb at hcl hnq
            clear hf hf' ht hcc
            rcases hu with rfl | ⟨hneg, he⟩
            · go_wp2_with fail
              refine (digBack10 u hu63 _ HLr.out).mono ?_
              rintro r W5 ⟨rfl, hb5⟩
              have HL5 := Lib.hid (HLr.out.below hb5 HLr.out.size)
              have hbf : Below w.heap.size w W5 := hbe.trans (hb5.mono hbe.size)
              clear cvA cvA' cvB hcat hb5
              go_wp2_with fail
              refine (numBack u hu63 _).mono ?_
              rintro r W5' ⟨rfl, rfl⟩
              go_wp2_with fail
              refine (numNot u hu63 _).mono ?_
              rintro r W5' ⟨rfl, rfl⟩
              go_wp2_with fail
              refine (digBack8 u hu63 _ HL5.out).mono ?_
              rintro r W6 ⟨rfl, hb6⟩
              go_wp2_with fail
              refine (octBack u hu63 _).mono ?_
              rintro r W6' ⟨rfl, rfl⟩
              have euu : ((u : Int) == (u : Int)) = true := beq_self_eq_true _
              go_wp2
              go_ret
              exact ⟨rfl, hbf.trans (hb6.mono hbf.size)⟩
            · go_wp2_with fail
              refine (digBack10 u hu63 _ HLr.out).mono ?_
              rintro r W5 ⟨rfl, hb5⟩
              have HL5 := Lib.hid (HLr.out.below hb5 HLr.out.size)
              have hbf : Below w.heap.size w W5 := hbe.trans (hb5.mono hbe.size)
              clear cvA cvA' cvB hcat hb5
              go_wp2_with fail
              refine (numBack u hu63 _).mono ?_
              rintro r W5' ⟨rfl, rfl⟩
              go_wp2_with fail
              refine (numNot u hu63 _).mono ?_
              rintro r W5' ⟨rfl, rfl⟩
              go_wp2_with fail
              refine (digBack8 u hu63 _ HL5.out).mono ?_
              rintro r W6 ⟨rfl, hb6⟩
              go_wp2_with fail
              refine (octBack u hu63 _).mono ?_
              rintro r W6' ⟨rfl, rfl⟩
              have euu : ((u : Int) == (u : Int)) = true := beq_self_eq_true _
              go_wp2
              go_ret
              exact ⟨rfl, hbf.trans (hb6.mono hbf.size)⟩
end Go.Proofs.YtcpclpckjheadaaDoor
