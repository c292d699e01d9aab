/- Numbers told; how often a repetition is; the program's package variables. -/
import Derived.Lib.LaidTab
import Derived.Lib.AppendIntMem
import Derived.Test.YtlekfdkahlobiaaGreatDoorHShelf
import Derived.Test.YtlekfdkahlobiaaGreatDoorGLaw3
import Derived.Test.YtlekfdkahlobiaaGreatDoorHIt
import Derived.Deep.RegionHeld3
import Derived.Test.YtlekfdkahlobiaaGreatDoorHRev
import Derived.Test.YtlekfdkahlobiaaGreatDoorGText2
namespace Go.Proofs.YtlekfdkahlobiaaGreatDoor.Re
open Go.Proofs.YtlekfdkahlobiaaGreatDoor.Tr
open Go.RowKit

/-- What is known of package variables. -/
structure AmS (w : World) : Prop where
  gM : 3 < w.heap.size
  ml : ∃ m, w.cell? ⟨3, 0, none⟩ = some (.int .i64 m)
  gP : 0 < w.heap.size
  p10 : Lib.TabIs Tryz.prog w "internal/strconv.uint64pow10" .u64 Lib.pow10Tab
theorem glob_pow : Tryz.prog.globalNamed "internal/strconv.uint64pow10" = some 0 := by kernel_rfl
theorem AmS.keep {w w' : World} (h : AmS w) (hB : Below w.heap.size w w') : AmS w' := by
  obtain ⟨m, hm⟩ := h.ml
  refine ⟨Nat.lt_of_lt_of_le h.gM hB.size, ⟨m, cell_below hB hm⟩, Nat.lt_of_lt_of_le h.gP hB.size, ?_⟩
  have h1 := h.p10
  unfold Lib.TabIs World.var? at h1 ⊢
  rw [glob_pow] at h1 ⊢
  simp only [Option.bind_some] at h1 ⊢
  rw [hB.block _ h.gP]
  exact h1
theorem itoa_dg : ∀ n : Nat, n < 256 → Lib.itoa (n : Int) = dgB 10 n := by decide +kernel
theorem itoa_c (n : Nat) (w : World) (hn : n ≤ 255) (hA : AmS w) : Calls Tryz.prog 63 #[.int .i64 (n : Int)] w fun e w' => e = .returned (.string (bs (dgB 10 n))) ∧ Below w.heap.size w w' :=
  (Tryz.strconv_Itoa (n : Int) (by omega) (by omega) w hA.p10).mono fun e w' ⟨he, k, os, hw⟩ => ⟨by rw [he, itoa_dg n (by omega)]; rfl, hw ▸ Lib.below_grow _ w (Nat.le_refl _) k os⟩
set_option maxHeartbeats 1000000 in
theorem dig_c : DigC AmS := by
  intro n w hA hn
  have hf := Tryz.strconv_FormatInt_10 (n : Int) (by omega) (by omega) w hA.p10
  rw [itoa_dg n (by omega)] at hf
  clear hA
  go_enter Tryz.func15, Tryz.ntmps15
  go_wp2_with (go_at_call 31; refine hf.mono ?_; rintro e w' ⟨rfl, k, os, rfl⟩)
  go_ret
  exact ⟨rfl, Lib.below_grow _ w (Nat.le_refl _) k os⟩
theorem dig_len3 (n : Nat) (h : n ≤ 255) : (dgB 10 n).length ≤ 3 := dig_len n (by omega)
set_option maxHeartbeats 1000000 in
set_option maxRecDepth 100000 in
theorem timesT_c {m n : Int} (hm : 0 ≤ m ∧ m ≤ 255) (hn : -1 ≤ n ∧ n ≤ 255) {w : World} (hA : AmS w) :
    Calls Tryz.prog 43 #[.int .i64 m, .int .i64 n] w fun e w' => e = .returned (.string (bs (timesT m n))) ∧ Below w.heap.size w w' := by
  obtain ⟨a, rfl⟩ : ∃ a : Nat, m = (a : Int) := ⟨m.toNat, by omega⟩
  have HA := Lib.hid hA
  have hi := itoa_c a w (by omega) hA
  have hd := dig_len3 a (by omega)
  have e1 : digL 10 (a : Int) = dgB 10 a := by rw [digL, if_neg (by omega)]; rfl
  have hz1 : (bs (dgB 10 a)).size ≤ 3 := by rw [bs_size]; exact hd
  clear hA
  by_cases h0 : n < 0
  · have n1 : ¬ (0 : Int) ≤ n := by omega
    have HT : Hid (timesT (a : Int) n = [123] ++ dgB 10 a ++ [44] ++ [125]) := by show _ = _; unfold timesT; rw [if_pos h0, e1]; simp
    go_enter Tryz.func43, Tryz.ntmps43
    go_wp2_with fail
    refine hi.mono ?_
    rintro e w1 ⟨rfl, hB⟩
    have HB := Lib.hid hB
    generalize hg : bs (dgB 10 a) = A at hz1 ⊢
    have HG := Lib.hid hg
    clear hB hi hg
    go_wp2_with fail
    go_ret
    exact ⟨by rw [HT.out, ← HG.out]; rfl, HB.out⟩
  · obtain ⟨b, rfl⟩ : ∃ b : Nat, n = (b : Int) := ⟨n.toNat, by omega⟩
    have n1 : (0 : Int) ≤ (b : Int) := by omega
    have e2 : digL 10 (b : Int) = dgB 10 b := by rw [digL, if_neg (by omega)]; rfl
    have HT : Hid (timesT (a : Int) (b : Int) = [123] ++ dgB 10 a ++ [44] ++ dgB 10 b ++ [125]) := by show _ = _; unfold timesT; rw [if_neg h0, e1, e2]; simp
    go_enter Tryz.func43, Tryz.ntmps43
    go_wp2_with fail
    refine hi.mono ?_
    rintro e w1 ⟨rfl, hB⟩
    have hi2 := itoa_c b w1 (by omega) (HA.out.keep hB)
    have hz2 : (bs (dgB 10 b)).size ≤ 3 := by rw [bs_size]; exact dig_len3 b (by omega)
    have HB := Lib.hid hB
    generalize hg : bs (dgB 10 a) = A at hz1 ⊢
    have HG := Lib.hid hg
    clear hB hi hg
    go_wp2_with fail
    refine hi2.mono ?_
    rintro e w2 ⟨rfl, hB2⟩
    have HB2 := Lib.hid (HB.out.trans (hB2.mono HB.out.size))
    generalize hg : bs (dgB 10 b) = A2 at hz2 ⊢
    have HG2 := Lib.hid hg
    clear hB2 hi2 hg
    go_wp2_with fail
    go_ret
    exact ⟨by rw [HT.out, ← HG.out, ← HG2.out]; rfl, HB2.out⟩
end Go.Proofs.YtlekfdkahlobiaaGreatDoor.Re

namespace Go.Proofs.YtlekfdkahlobiaaGreatDoor.Re
open Go.Proofs.YtlekfdkahlobiaaGreatDoor.Tr
open Go.RowKit

theorem info_str : (Tryz.prog.info? 9).map (fun i => (i.zero, i.size, i.bytes)) = some (some (.string ⟨#[]⟩), 1, 16) := by kernel_rfl
def sepL (L : List (List UInt8)) : List UInt8 := if L = [] then [] else [44]
theorem join_snoc (L : List (List UInt8)) (x : List UInt8) : Lib.join (L ++ [x]) [44] = Lib.join L [44] ++ sepL L ++ x := by
  cases L with
  | nil => rw [List.nil_append, Lib.join_one]; rfl
  | cons y L =>
    rw [List.cons_append, Lib.join_cons, Lib.join_cons]
    simp [Lib.joinTail, sepL]
theorem join_len (L : List (List UInt8)) (h : ∀ x ∈ L, x.length ≤ 5) : (Lib.join L [44]).length ≤ 6 * L.length := by
  cases L with
  | nil => simp [Lib.join_nil]
  | cons y L =>
    rw [Lib.join_length]
    have : Lib.lens (y :: L) ≤ 5 * (y :: L).length := by
      generalize y :: L = M at h
      induction M with
      | nil => simp [Lib.lens]
      | cons z M ih =>
        have h1 := h z (List.mem_cons_self ..)
        have h2 := ih (fun x hx => h x (List.mem_cons_of_mem _ hx))
        simp only [Lib.lens, List.map_cons, List.sum_cons, List.length_cons] at h2 ⊢
        omega
    simp only [List.length_cons, List.length_nil] at this ⊢
    omega
def rgC (L : List (List UInt8)) : List Value := L.map fun x => .string (bs x)
structure RngI (w wr : World) (p : UInt8 → Bool) (v : Value) (c : Nat) (L : List (List UInt8)) : Prop where
  eq : rangesF p 0 [] = Lib.join L [44] ++ rangesF p c (sepL L)
  row : wr.ownsRow (w.heap.size + 1) 9 1 v L.length (rgC L)
  has : wr.heap[w.heap.size]? = some (.cells (boolsL p).toArray 51)
  bel : Below w.heap.size w wr
  sm : ∀ x ∈ L, x.length ≤ 5
theorem RngI.below {w u u' : World} {p : UInt8 → Bool} {v : Value} {c : Nat} {L : List (List UInt8)} (h : RngI w u p v c L) (hB : Below u.heap.size u u') : RngI w u' p v c L :=
  ⟨h.eq, row_keep h.row fun g _ hg => (hB.block g (h_lt hg)).trans hg, (hB.block _ (h_lt h.has)).trans h.has, h.bel.trans (hB.mono h.bel.size), h.sm⟩
theorem RngI.next {w u u' : World} {p : UInt8 → Bool} {v v' : Value} {c : Nat} {L : List (List UInt8)} (h : RngI w u p v c L) (hc : c < 256) (hp : p (UInt8.ofNat c) = true) (ho : u'.ownsRow (w.heap.size + 1) 9 1 v' (L.length + 1) (rgC L ++ [.string (bs (rangeS c (runF p c)))])) (hg : u.grownBy u' v.ownBlock) : RngI w u' p v' (runF p c + 1) (L ++ [rangeS c (runF p c)]) := by
  refine ⟨?_, ?_, grown_other h.row hg (by decide) h.has, h.bel.grown hg h.bel.size (fun k hk => by have := (h.row.lt k hk).1; omega), fun x hx => ?_⟩
  · rw [h.eq, rangesF_yes hc hp, join_snoc]
    have : sepL (L ++ [rangeS c (runF p c)]) = [44] := if_neg (by simp)
    rw [this]
    simp
  · rw [List.length_append]
    have : rgC (L ++ [rangeS c (runF p c)]) = rgC L ++ [.string (bs (rangeS c (runF p c)))] := by simp [rgC]
    rw [this]
    exact ho
  · rcases List.mem_append.1 hx with hx | hx
    · exact h.sm x hx
    · rcases List.mem_singleton.1 hx with rfl
      exact rangeS_len _ _
theorem RngI.no {w u : World} {p : UInt8 → Bool} {v : Value} {c : Nat} {L : List (List UInt8)} (h : RngI w u p v c L) (hc : c < 256) (hp : p (UInt8.ofNat c) = false) : RngI w u p v (c + 1) L := ⟨by rw [h.eq, rangesF_no hc hp], h.row, h.has, h.bel, h.sm⟩
theorem RngI.cell {w u : World} {p : UInt8 → Bool} {v : Value} {c : Nat} {L : List (List UInt8)} (h : RngI w u p v c L) (i : Nat) (hi : i < 256) : u.cell? ⟨w.heap.size, i, none⟩ = some (.bool (p (UInt8.ofNat i))) := h_cell h.has i (by simp [boolsL, hi])
theorem cell_oneS (W : World) (a : Value) (T : Nat) : ∀ j u, [a][j]? = some u → (W.alloc (.cells #[a] T)).cell? ((⟨W.heap.size, 0, none⟩ : Addr).add j) = some u := by
  intro j u h
  rcases j with _ | j
  · cases h
    rw [Addr.add_lit]
    exact h_cell (al_new W _) 0 rfl
  · simp at h
theorem join_fin {w u : World} {p : UInt8 → Bool} {v : Value} {L : List (List UInt8)} (h : RngI w u p v 256 L) (hL : L.length ≤ 256) : Calls Tryz.prog 62 #[v, .string ⟨#[44]⟩] u fun e u' => e = .returned (.string (bs (rangesF p 0 []))) ∧ Below w.heap.size w u' := by
  have he : rangesF p 0 [] = Lib.join L [44] := by rw [h.eq, rangesF_end (by omega), List.append_nil]
  rw [he]
  rcases h.row.2 with ⟨rfl, h0⟩ | ⟨g, cap, cur, rfl, hb, hg, hle, hcap, hsz, ht⟩
  · have hL0 : L = [] := List.length_eq_zero_iff.1 h0
    subst hL0
    exact (Tryz.strings_Join_none none 0 ⟨#[44]⟩ u).mono fun e u' ⟨h1, h2⟩ => ⟨h1, h2 ▸ h.bel⟩
  · have hm : (L.map bs).map (·.data.toList) = L := by rw [List.map_map]; exact List.map_id _
    have hj := Tryz.strings_Join g 0 cap (L.map bs) ⟨#[44]⟩ u (fun j x hx => by
      rw [Nat.zero_add]
      rw [List.getElem?_map] at hx
      obtain ⟨y, hy, rfl⟩ := Option.map_eq_some_iff.1 hx
      have hj := (List.getElem?_eq_some_iff.1 hy).1
      refine h_cell hg j ?_
      have h3 : (rgC L)[j]? = some (.string (bs y)) := by rw [rgC, List.getElem?_map, hy]; rfl
      rw [← ht, List.getElem?_take, if_pos (by omega)] at h3
      simpa using h3) (h_lt hg) (by rw [List.length_map]; omega) (by rw [List.length_map]; exact hle) (by rw [hm]; have := join_len L h.sm; show (Lib.join L [44]).length ≤ _; omega)
    rw [hm, List.length_map] at hj
    exact hj.mono fun e u' ⟨h1, h2⟩ => ⟨h1, h.bel.trans (h2.mono h.bel.size)⟩
set_option maxHeartbeats 4000000 in
set_option maxRecDepth 100000 in
theorem ranges_c (p : UInt8 → Bool) (w : World) :
    Calls Tryz.prog 41 #[.agg (boolsL p).toArray] w fun e w' => e = .returned (.string (bs (rangesF p 0 []))) ∧ Below w.heap.size w w' := by
  obtain ⟨i0, hi, hz0, hz1, hz2⟩ := p_info info_str
  have HI0 : Hid (RngI w (w.alloc (.cells (boolsL p).toArray 51)) p (.slice none 0 0) 0 []) := ⟨rfl, ⟨rfl, .inl ⟨rfl, rfl⟩⟩, al_new _ _, (Below.refl _ w).alloc (Nat.le_refl _) _, fun x hx => by cases hx⟩
  generalize (boolsL p).toArray = cs at HI0 ⊢
  go_enter Tryz.func41, Tryz.ntmps41
  go_wp2_with fail
  go_loopw [3, 4, 5, 6] (fun v3 v4 _ _ wr => ∃ (c : Nat) (va : Option Addr) (vc : Nat) (L : List (List UInt8)), c ≤ 256 ∧ v4 = .int .i64 (c : Int) ∧ v3 = .slice va L.length vc ∧ L.length ≤ c ∧ Hid (RngI w wr p (.slice va L.length vc) c L)) (fun _ v4 _ _ _ => 256 - (intOf v4).toNat)
  case atStart => exact ⟨0, none, 0, [], by omega, rfl, rfl, Nat.le_refl _, HI0⟩
  case round =>
    obtain ⟨c, va, vc, L, hc, rfl, rfl, hL, HI⟩ := hrel
    clear HI0
    by_cases hlt : c < 256
    · have g0 : (c : Int) < 256 := by omega
      have cc := HI.out.cell c hlt
      cases hp : p (UInt8.ofNat c) with
      | false =>
        rw [hp] at cc
        have HN := Lib.hid (HI.out.no hlt hp)
        clear hp HI
        go_wp2_with fail
        exact ⟨⟨c + 1, va, vc, L, by omega, by go_num, rfl, by omega, HN⟩, by simp [intOf]; omega⟩
      | true =>
        rw [hp] at cc
        have HP := Lib.hid hp
        clear hp
        go_wp2_with fail
        go_loop [4] (fun vk => ∃ k : Nat, c ≤ k ∧ k ≤ 255 ∧ vk = .int .i64 (k : Int) ∧ Hid (runF p c = runF p k)) (fun vk => 255 - (intOf vk).toNat)
        case atStart => exact ⟨c, by omega, by omega, rfl, rfl⟩
        case round =>
          obtain ⟨k, hk1, hk2, rfl, HK⟩ := hrel
          by_cases hk : k < 255
          · have g1 : (k : Int) + 1 < 256 := by omega
            have ck := HI.out.cell (k + 1) (by omega)
            cases hp : p (UInt8.ofNat (k + 1)) with
            | true =>
              rw [hp] at ck
              have HN : Hid (runF p c = runF p (k + 1)) := HK.out.trans (runF_go hk hp)
              clear hp HK
              go_wp2_with fail
              exact ⟨⟨k + 1, by omega, by omega, by go_num, HN⟩, by simp [intOf]; omega⟩
            | false =>
              rw [hp] at ck
              have HN : Hid (runF p c = k) := HK.out.trans (runF_end (fun h => by rw [hp] at h; exact absurd h.2 (by simp)))
              clear hp HK
              by_cases hck : c < k
              · have g2 : (c : Int) < (k : Int) := by omega
                have tc := twoD_c c wr hlt
                have l2 : (bs (twoS c)).size = 2 := rfl
                have l3 : (bs (twoS k)).size = 2 := rfl
                have HE : Hid (bs (twoS c) ++ ((⟨#[45]⟩ : ByteArray) ++ bs (twoS k)) = bs (rangeS c (runF p c))) := by show _ = _; rw [HN.out, rangeS, if_pos hck]; rfl
                go_wp2_with fail
                refine tc.mono ?_
                rintro e w2 ⟨rfl, hB2⟩
                have H2 := Lib.hid (HI.out.below hB2)
                have tk := twoD_c k w2 (by omega)
                clear tc hB2
                go_wp2_with fail
                refine tk.mono ?_
                rintro e w3 ⟨rfl, hB3⟩
                have H3 := Lib.hid (H2.out.below hB3)
                clear tk hB3
                go_wp2_with (at_builtin; refine wpList_append_lies _ rfl _ _ 101 rfl (w.heap.size + 1) 9 i0 (.string ⟨#[]⟩) 1 16 Tryz.underlying101 hi hz0 hz1 hz2 rfl (by decide) (.slice va L.length vc) L.length (rgC L) rfl (H3.out.below ((Below.refl _ w3).alloc (Nat.le_refl _) _)).row ⟨w3.heap.size, 0, none⟩ 1 1 [_] rfl rfl (cell_oneS _ _ _) (by simp [Value.oneCell']) (by omega) (by unfold maxLen; omega) (by omega) (by have := H3.out.bel.size; have := h_lt H3.out.has; simp; omega) _ rfl ?_; intro g cap2 w4 hown4 hgrow4 hat4 hlt4; have H4 := Lib.hid (And.intro hown4 hgrow4); clear hown4 hgrow4 hat4 hlt4)
                have hal : Below w3.heap.size w3 (w3.alloc (.cells #[.string (bs (twoS c) ++ ((⟨#[45]⟩ : ByteArray) ++ bs (twoS k)))] 9)) := (Below.refl _ w3).alloc (Nat.le_refl _) _
                have hn := (H3.out.below hal).next hlt HP.out (by rw [← HE.out]; exact H4.out.1) H4.out.2
                rw [HN.out] at hn
                exact ⟨⟨k + 1, some ⟨g, 0, none⟩, cap2, L ++ [rangeS c k], by omega, by go_num, by rw [List.length_append]; rfl, by simp; omega, (by rw [List.length_append]; exact hn)⟩, by simp [intOf]; omega⟩
              · obtain rfl : c = k := by omega
                have tc := twoD_c c wr hlt
                have HE : Hid (bs (twoS c) = bs (rangeS c (runF p c))) := by show _ = _; rw [HN.out, rangeS, if_neg hck, List.append_nil]
                go_wp2_with fail
                refine tc.mono ?_
                rintro e w2 ⟨rfl, hB2⟩
                have H2 := Lib.hid (HI.out.below hB2)
                clear tc hB2
                go_wp2_with (at_builtin; refine wpList_append_lies _ rfl _ _ 101 rfl (w.heap.size + 1) 9 i0 (.string ⟨#[]⟩) 1 16 Tryz.underlying101 hi hz0 hz1 hz2 rfl (by decide) (.slice va L.length vc) L.length (rgC L) rfl (H2.out.below ((Below.refl _ w2).alloc (Nat.le_refl _) _)).row ⟨w2.heap.size, 0, none⟩ 1 1 [_] rfl rfl (cell_oneS _ _ _) (by simp [Value.oneCell']) (by omega) (by unfold maxLen; omega) (by omega) (by have := H2.out.bel.size; have := h_lt H2.out.has; simp; omega) _ rfl ?_; intro g cap2 w4 hown4 hgrow4 hat4 hlt4; have H4 := Lib.hid (And.intro hown4 hgrow4); clear hown4 hgrow4 hat4 hlt4)
                have hal : Below w2.heap.size w2 (w2.alloc (.cells #[.string (bs (twoS c))] 9)) := (Below.refl _ w2).alloc (Nat.le_refl _) _
                have hn := (H2.out.below hal).next hlt HP.out (by rw [← HE.out]; exact H4.out.1) H4.out.2
                rw [HN.out] at hn
                exact ⟨⟨c + 1, some ⟨g, 0, none⟩, cap2, L ++ [rangeS c c], by omega, by go_num, by rw [List.length_append]; rfl, by simp; omega, (by rw [List.length_append]; exact hn)⟩, by simp [intOf]; omega⟩
          · obtain rfl : k = 255 := by omega
            have HN : Hid (runF p c = 255) := HK.out.trans (runF_end (fun h => by omega))
            clear HK hk hk2
            by_cases hck : c < 255
            · have g2 : (c : Int) < 255 := by omega
              have tc := twoD_c c wr hlt
              have l2 : (bs (twoS c)).size = 2 := rfl
              have l3 : (bs (twoS 255)).size = 2 := rfl
              have HE : Hid (bs (twoS c) ++ ((⟨#[45]⟩ : ByteArray) ++ bs (twoS 255)) = bs (rangeS c (runF p c))) := by show _ = _; rw [HN.out, rangeS, if_pos hck]; rfl
              go_wp2_with fail
              refine tc.mono ?_
              rintro e w2 ⟨rfl, hB2⟩
              have H2 := Lib.hid (HI.out.below hB2)
              have tk := twoD_c 255 w2 (by omega)
              clear tc hB2
              go_wp2_with fail
              refine tk.mono ?_
              rintro e w3 ⟨rfl, hB3⟩
              have H3 := Lib.hid (H2.out.below hB3)
              clear tk hB3
              go_wp2_with (at_builtin; refine wpList_append_lies _ rfl _ _ 101 rfl (w.heap.size + 1) 9 i0 (.string ⟨#[]⟩) 1 16 Tryz.underlying101 hi hz0 hz1 hz2 rfl (by decide) (.slice va L.length vc) L.length (rgC L) rfl (H3.out.below ((Below.refl _ w3).alloc (Nat.le_refl _) _)).row ⟨w3.heap.size, 0, none⟩ 1 1 [_] rfl rfl (cell_oneS _ _ _) (by simp [Value.oneCell']) (by omega) (by unfold maxLen; omega) (by omega) (by have := H3.out.bel.size; have := h_lt H3.out.has; simp; omega) _ rfl ?_; intro g cap2 w4 hown4 hgrow4 hat4 hlt4; have H4 := Lib.hid (And.intro hown4 hgrow4); clear hown4 hgrow4 hat4 hlt4)
              have hal : Below w3.heap.size w3 (w3.alloc (.cells #[.string (bs (twoS c) ++ ((⟨#[45]⟩ : ByteArray) ++ bs (twoS 255)))] 9)) := (Below.refl _ w3).alloc (Nat.le_refl _) _
              have hn := (H3.out.below hal).next hlt HP.out (by rw [← HE.out]; exact H4.out.1) H4.out.2
              rw [HN.out] at hn
              exact ⟨⟨255 + 1, some ⟨g, 0, none⟩, cap2, L ++ [rangeS c 255], by omega, by go_num, by rw [List.length_append]; rfl, by simp; omega, (by rw [List.length_append]; exact hn)⟩, by simp [intOf]; omega⟩
            · obtain rfl : c = 255 := by omega
              have tc := twoD_c 255 wr hlt
              have HE : Hid (bs (twoS 255) = bs (rangeS 255 (runF p 255))) := by show _ = _; rw [HN.out, rangeS, if_neg hck, List.append_nil]
              go_wp2_with fail
              refine tc.mono ?_
              rintro e w2 ⟨rfl, hB2⟩
              have H2 := Lib.hid (HI.out.below hB2)
              clear tc hB2
              go_wp2_with (at_builtin; refine wpList_append_lies _ rfl _ _ 101 rfl (w.heap.size + 1) 9 i0 (.string ⟨#[]⟩) 1 16 Tryz.underlying101 hi hz0 hz1 hz2 rfl (by decide) (.slice va L.length vc) L.length (rgC L) rfl (H2.out.below ((Below.refl _ w2).alloc (Nat.le_refl _) _)).row ⟨w2.heap.size, 0, none⟩ 1 1 [_] rfl rfl (cell_oneS _ _ _) (by simp [Value.oneCell']) (by omega) (by unfold maxLen; omega) (by omega) (by have := H2.out.bel.size; have := h_lt H2.out.has; simp; omega) _ rfl ?_; intro g cap2 w4 hown4 hgrow4 hat4 hlt4; have H4 := Lib.hid (And.intro hown4 hgrow4); clear hown4 hgrow4 hat4 hlt4)
              have hal : Below w2.heap.size w2 (w2.alloc (.cells #[.string (bs (twoS 255))] 9)) := (Below.refl _ w2).alloc (Nat.le_refl _) _
              have hn := (H2.out.below hal).next hlt HP.out (by rw [← HE.out]; exact H4.out.1) H4.out.2
              rw [HN.out] at hn
              exact ⟨⟨255 + 1, some ⟨g, 0, none⟩, cap2, L ++ [rangeS 255 255], by omega, by go_num, by rw [List.length_append]; rfl, by simp; omega, (by rw [List.length_append]; exact hn)⟩, by simp [intOf]⟩
    · obtain rfl : c = 256 := by omega
      have hj := join_fin HI.out hL
      clear HI hlt
      go_wp2_with fail
      refine hj.mono ?_
      rintro e w2 ⟨rfl, hB⟩
      go_wp2_with fail
      go_ret
      exact ⟨rfl, hB⟩
end Go.Proofs.YtlekfdkahlobiaaGreatDoor.Re

namespace Go.Proofs.YtlekfdkahlobiaaGreatDoor.Re
open Go.RowKit

/-- A node with all that it is made of, in blocks of which F holds. -/
def NodeF (T : Nat) (F : Nat → Prop) (w : World) : Value → Nd → Prop
  | v, ⟨k, p, m, n, l⟩ => ∃ b kv, v = ptr b ∧ F b ∧ BlkAt T w b k p m n kv ∧
      ((kv = .slice none 0 0 ∧ l = []) ∨ ∃ kb off cap, kv = .slice (some ⟨kb, off, none⟩) l.length cap ∧ (l.length ≤ cap ∧ cap ≤ 9223372036854775807) ∧ kidsF kb off 0 l)
  where kidsF (kb off : Nat) : Nat → List Nd → Prop
  | _, [] => True
  | j, x :: l => (F kb ∧ w.frozen? ⟨kb, off + j, none⟩ = false ∧ ∃ v, w.cell? ⟨kb, off + j, none⟩ = some v ∧ NodeF T F w v x) ∧ kidsF kb off (j + 1) l
/-- Blocks of which F holds are as they were. -/
def KeptF (F : Nat → Prop) (w w' : World) : Prop := ∀ b o, F b → w.heap[b]? = some o → w'.heap[b]? = some o
theorem KeptF.cell {F : Nat → Prop} {w w' : World} (h : KeptF F w w') {b off : Nat} {v : Value} (hF : F b) (hc : w.cell? ⟨b, off, none⟩ = some v) : w'.cell? ⟨b, off, none⟩ = some v := by
  have hlt := World.block_lt_of_cell? w _ hc
  obtain ⟨o, ho⟩ : ∃ o, w.heap[b]? = some o := ⟨_, Array.getElem?_eq_getElem hlt⟩
  exact (World.cell?_of_block ((h b o hF ho).trans ho.symm)).trans hc
theorem KeptF.fz {F : Nat → Prop} {w w' : World} (h : KeptF F w w') {b off : Nat} {v : Value} (hF : F b) (hc : w.cell? ⟨b, off, none⟩ = some v) (hz : w.frozen? ⟨b, off, none⟩ = false) : w'.frozen? ⟨b, off, none⟩ = false := by
  have hlt := World.block_lt_of_cell? w _ hc
  obtain ⟨o, ho⟩ : ∃ o, w.heap[b]? = some o := ⟨_, Array.getElem?_eq_getElem hlt⟩
  exact (World.frozen?_of_block ((h b o hF ho).trans ho.symm)).trans hz
theorem NodeF.kept {T : Nat} {F G : Nat → Prop} {w w' : World} (hk : KeptF F w w') (hFG : ∀ b, F b → b < w.heap.size → G b) : ∀ {v : Value} {x : Nd}, NodeF T F w v x → NodeF T G w' v x
  | v, ⟨k, p, m, n, l⟩, h => by
    rw [NodeF] at h ⊢
    obtain ⟨b, kv, hv, hF, hB, hd⟩ := h
    refine ⟨b, kv, hv, hFG b hF (h_lt hB), hk b _ hF hB, ?_⟩
    rcases hd with hd | ⟨kb, off, cap, h1, h2, h4⟩
    · exact .inl hd
    · exact .inr ⟨kb, off, cap, h1, h2, kids l 0 kb off h4⟩
  where kids : ∀ (l : List Nd) (j kb off : Nat), NodeF.kidsF T F w kb off j l → NodeF.kidsF T G w' kb off j l
  | [], _, _, _, _ => by rw [NodeF.kidsF]; trivial
  | x :: l, j, kb, off, h => by
    rw [NodeF.kidsF] at h ⊢
    obtain ⟨⟨hF, hz, v, h1, h2⟩, h3⟩ := h
    exact ⟨⟨hFG kb hF (World.block_lt_of_cell? w _ h1), hk.fz hF h1 hz, v, hk.cell hF h1, NodeF.kept hk hFG h2⟩, kids l (j + 1) kb off h3⟩
theorem NodeF.node {T : Nat} {F : Nat → Prop} {w : World} : ∀ {v : Value} {x : Nd}, NodeF T F w v x → NodeAt T w v x
  | v, ⟨k, p, m, n, l⟩, h => by
    rw [NodeF] at h
    rw [NodeAt]
    obtain ⟨b, kv, hv, _, hB, hd⟩ := h
    refine ⟨b, kv, hv, hB, ?_⟩
    rcases hd with hd | ⟨kb, off, cap, h1, h2, h4⟩
    · exact .inl hd
    · exact .inr ⟨kb, off, cap, h1, h2, kids l 0 kb off h4⟩
  where kids : ∀ (l : List Nd) (j kb off : Nat), NodeF.kidsF T F w kb off j l → NodeAt.kidsAt T w kb off j l
  | [], _, _, _, _ => by rw [NodeAt.kidsAt]; trivial
  | x :: l, j, kb, off, h => by
    rw [NodeF.kidsF] at h
    rw [NodeAt.kidsAt]
    obtain ⟨⟨_, _, v, h1, h2⟩, h3⟩ := h
    exact ⟨⟨v, h1, NodeF.node h2⟩, kids l (j + 1) kb off h3⟩
theorem kidsF_of {T : Nat} {F : Nat → Prop} {w : World} : ∀ {l : List Nd} {j kb off : Nat}, (l ≠ [] → F kb) → (∀ (i : Nat) (x : Nd), l[i]? = some x → w.frozen? ⟨kb, off + (j + i), none⟩ = false ∧ ∃ v, w.cell? ⟨kb, off + (j + i), none⟩ = some v ∧ NodeF T F w v x) → NodeF.kidsF T F w kb off j l
  | [], _, _, _, _, _ => by rw [NodeF.kidsF]; trivial
  | y :: l, j, kb, off, hF, h => by
    rw [NodeF.kidsF]
    refine ⟨⟨hF (by simp), h 0 y rfl⟩, kidsF_of (fun _ => hF (by simp)) fun i x hx => ?_⟩
    have := h (i + 1) x (by simpa using hx)
    rw [show j + 1 + i = j + (i + 1) by omega]
    exact this
/-- Pointers to nodes, one by one. -/
def PtrsF (T : Nat) (F : Nat → Prop) (w : World) (vs : List Value) (l : List Nd) : Prop := vs.length = l.length ∧ ∀ (i : Nat) (v : Value) (x : Nd), vs[i]? = some v → l[i]? = some x → NodeF T F w v x
theorem PtrsF.snoc {T : Nat} {F : Nat → Prop} {w : World} {vs : List Value} {l : List Nd} {v : Value} {x : Nd} (h : PtrsF T F w vs l) (hx : NodeF T F w v x) : PtrsF T F w (vs ++ [v]) (l ++ [x]) := by
  refine ⟨by simp [h.1], fun i u y hu hy => ?_⟩
  by_cases hi : i < l.length
  · rw [List.getElem?_append_left (by rw [h.1]; exact hi)] at hu
    rw [List.getElem?_append_left hi] at hy
    exact h.2 i u y hu hy
  · rw [List.getElem?_append_right (by rw [h.1]; omega)] at hu
    rw [List.getElem?_append_right (by omega)] at hy
    rw [h.1] at hu
    rcases hj : i - l.length with _ | j
    · rw [hj] at hu hy; cases hu; cases hy; exact hx
    · rw [hj] at hu; simp at hu
theorem PtrsF.kept {T : Nat} {F G : Nat → Prop} {w w' : World} {vs : List Value} {l : List Nd} (h : PtrsF T F w vs l) (hk : KeptF F w w') (hFG : ∀ b, F b → b < w.heap.size → G b) : PtrsF T G w' vs l := ⟨h.1, fun i v x hv hx => (h.2 i v x hv hx).kept hk hFG⟩
/-- A row of one's own whose cells are pointers to nodes. -/
theorem NodeF.make {T E : Nat} {F : Nat → Prop} {w : World} {b base k : Nat} {p : UInt8 → Bool} {m n : Int} {kv : Value} {vs : List Value} {l : List Nd} (hb : F b) (hB : BlkAt T w b k p m n kv) (hO : w.ownsRow base E 1 kv l.length vs) (hF : ∀ j, kv.ownBlock = some j → F j) (hP : PtrsF T F w vs l) : NodeF T F w (ptr b) ⟨k, p, m, n, l⟩ := by
  rw [NodeF]
  refine ⟨b, kv, rfl, hb, hB, ?_⟩
  rcases hO.2 with ⟨rfl, h0⟩ | ⟨g, cap, cur, rfl, hg, hh, hle, hcap, hsz, ht⟩
  · exact .inl ⟨rfl, List.length_eq_zero_iff.1 h0⟩
  · refine .inr ⟨g, 0, cap, rfl, ⟨hle, by unfold maxLen at hcap; exact hcap⟩, kidsF_of (fun _ => hF g rfl) fun i x hx => ?_⟩
    have hi := (List.getElem?_eq_some_iff.1 hx).1
    obtain ⟨v, hv⟩ : ∃ v, vs[i]? = some v := ⟨_, List.getElem?_eq_getElem (by rw [hP.1]; exact hi)⟩
    refine ⟨?_, v, ?_, hP.2 i v x hv hx⟩
    · simp [World.frozen?, hh]
    rw [Nat.zero_add, Nat.zero_add, ← hv, ← ht, List.getElem?_take, if_pos (by omega)]
    simp [World.cell?, hh]
end Go.Proofs.YtlekfdkahlobiaaGreatDoor.Re
