/- Open by a table; a file is written to; which descriptors are open. -/
import Derived.Test.YtbbmihlabllliaaGreatDoorKOpen3
namespace Go.Proofs.YtbbmihlabllliaaGreatDoor
open Go.RowKit Go.Shelf Go.Maps

abbrev hsA (so re : Nat) : Array Value := #[iSo so, .nilIface, .nilIface, iRe re, .nilIface, .nilIface, .nilIface, .nilIface, .nilIface, .nilIface, .nilIface, .nilIface, .nilIface, .nilIface, .nilIface, .nilIface]
abbrev hsB (so fi re : Nat) : Array Value := #[iSo so, iFi fi, .nilIface, iRe re, .nilIface, .nilIface, .nilIface, .nilIface, .nilIface, .nilIface, .nilIface, .nilIface, .nilIface, .nilIface, .nilIface, .nilIface]

theorem tb_cell' {w : World} {t k : Nat} {hs : Array Value} (h : TbAt w t k hs) (i j : Nat) (hj : j = 1 + i) {v : Value} (hi : hs[i]? = some v) : w.cell? ⟨t, j, none⟩ = some v := by
  subst hj; exact tb_cell h i hi

set_option maxRecDepth 100000 in
set_option maxHeartbeats 2000000 in
theorem least_c (t k so re : Nat) (w : World) (hT : TbAt w t k (hsA so re)) :
    Calls Tryz.prog 54 #[ptr t] w fun e w' => e = .returned (.tuple #[.int .i64 1, .bool true]) ∧ w' = w := by
  have c0 := tb_cell' hT 0 1 rfl rfl
  have c1 := tb_cell' hT 1 2 rfl rfl
  have c2 := tb_cell' hT 2 3 rfl rfl
  have c3 := tb_cell' hT 3 4 rfl rfl
  have c4 := tb_cell' hT 4 5 rfl rfl
  have c5 := tb_cell' hT 5 6 rfl rfl
  have c6 := tb_cell' hT 6 7 rfl rfl
  have c7 := tb_cell' hT 7 8 rfl rfl
  have c8 := tb_cell' hT 8 9 rfl rfl
  have c9 := tb_cell' hT 9 10 rfl rfl
  have c10 := tb_cell' hT 10 11 rfl rfl
  have c11 := tb_cell' hT 11 12 rfl rfl
  have c12 := tb_cell' hT 12 13 rfl rfl
  have c13 := tb_cell' hT 13 14 rfl rfl
  have c14 := tb_cell' hT 14 15 rfl rfl
  have c15 := tb_cell' hT 15 16 rfl rfl
  have q1 := nil_eq
  have q2 := nil_nil
  have ix0 : ∀ w, (Instr.index 117 (.agg (hsA so re)) (.int .i64 0)).run Tryz.prog w = .ok (iSo so) w := fun _ => by kernel_rfl
  have ix1 : ∀ w, (Instr.index 117 (.agg (hsA so re)) (.int .i64 1)).run Tryz.prog w = .ok .nilIface w := fun _ => by kernel_rfl
  clear hT
  go_enter Tryz.func54, Tryz.ntmps54
  go_wp2_with fail
  go_loopg [10] 1 (fun g i wr => wr = w ∧ ((i = .int .i64 0 ∧ g = 1) ∨ (i = .int .i64 1 ∧ g = 0)))
  case atStart => exact ⟨rfl, .inl ⟨rfl, rfl⟩⟩
  case round =>
    obtain ⟨rfl, ⟨rfl, rfl⟩ | ⟨rfl, rfl⟩⟩ := hrel
    · go_wp2_with fail
      go_roundg 0
      case measure => omega
      case rel => exact ⟨rfl, .inr ⟨by go_num, rfl⟩⟩
    · go_wp2_with fail
      refine bodyPost_ret (results_tmp2 rfl _ _ _) rfl ?_
      exact ⟨rfl, rfl⟩

set_option maxRecDepth 100000 in
set_option maxHeartbeats 2000000 in
theorem place_f (k e : Nat) (c num : Int) (w : World) (hf : FiAt w e c num 2 2 0) : Calls Tryz.prog 140 #[ptr k, ptr e] w fun r w' => r = .returned (.int .i64 0) ∧ w' = w := by
  have c3 := h_cell hf 3 rfl
  have c4 := h_cell hf 4 rfl
  clear hf
  go_enter Tryz.func140, Tryz.ntmps140
  go_wp2
  go_ret
  exact ⟨rfl, rfl⟩
set_option maxRecDepth 100000 in
set_option maxHeartbeats 2000000 in
theorem room_f (k e : Nat) (c num : Int) (w : World) (hf : FiAt w e c num 2 2 0) : Calls Tryz.prog 102 #[ptr k, iFi e] w fun r w' => r = .returned (.tuple #[.int .i64 (8192 : Nat), .int .i64 0]) ∧ ∃ q, w' = w.drewN q := by
  have hp := place_f k e c num w hf
  have t1 := ta_fi_we
  have t2 := ta_fi_fi
  clear hf
  go_enter Tryz.func102, Tryz.ntmps102
  go_wp2_with (go_at_call 140; refine hp.mono ?_; rintro r w2 ⟨rfl, hw2⟩; rw [hw2]; clear hw2)
  refine bodyPost_ret (results_tmp2 rfl _ _ _) rfl ?_
  exact ⟨rfl, 0, rfl⟩

set_option maxRecDepth 100000 in
set_option maxHeartbeats 2000000 in
theorem give_f (k th t rt fm n e b o c : Nat) (fs : Value) (used now last cc num md : Int) (bs : List UInt8) (w : World) (hf : FiAt w e cc num 2 2 0) (hn : NdAt w n ⟨2, md, now, false, .pointer none, .map none, .slice none 0 0, 1, 1⟩) (hF : w.ownsMap Tryz.prog 3 R fm 1 (mE.put (ik 2) (.held (ptr n)))) (hT : TrAt w t (ptr rt) (.map (some fm)) (.int .i64 1) (.int .i64 2)) (hK : KnAt w k (ptr t) fs used now th last)
    (hbs : bs.length = 2) (hc : 2 ≤ c) (hcell : ∀ j, j < 2 → w.cell? ⟨b, o + j, none⟩ = some (.int .u8 ((bs[j]?.getD 0).toNat : Int))) (hbn : b ≠ n) :
    Calls Tryz.prog 104 #[ptr k, iFi e, .slice (some ⟨b, o, none⟩) 2 c] w fun r w' => (∃ x, r = .returned x) ∧ Turn [n, e] w w' := by
  have k0 := h_cell hK 0 rfl
  have k3 := h_cell hK 3 rfl
  have f2 := h_cell hf 2 rfl
  have f4 := h_cell hf 4 rfl
  have hne := h_ne hf (show w.heap[n]? = _ from hn) (by decide)
  have hp := place_f k e cc num w hf
  have t0 := ta_fi_sk
  have t1 := ta_fi_we
  have t2 := ta_fi_fi
  have hw : Hid (∀ q, Calls Tryz.prog 141 #[.pointer (some ⟨t, 0, none⟩), .int .i64 2, .int .i64 0, .slice (some ⟨b, o, none⟩) 2 c, .int .i64 now] (w.drewN q) fun r w' => (∃ x, r = .returned x) ∧ Turn [n] w w') := fun q => by
    refine (write_end t n fm 1 _ 2 now _ none 0 0 w.heap.size b o 2 c [] bs _ _ _ (w.drewN q) hT hF (by decide) (look_put_same isMap_E (isKey_i 2) _) hn rfl (World.ownsRow_nil _ _ _ _) (Nat.le_refl _) (by decide) (by decide) (by decide) hbs hc hcell (by simp [Value.ownBlock]) hbn).mono ?_
    rintro r w' ⟨hx, v', _, _, hU, _⟩
    exact ⟨hx, hU.os, hU.tape, hU.output, hU.size, fun x hx hs => hU.block x hx (by simpa [Value.ownBlock] using hs)⟩
  have hw1 := hw.out 1
  have HF := Lib.hid hf
  clear hf hn hF hT hK hcell hw
  go_enter Tryz.func104, Tryz.ntmps104
  go_wp2_with (go_at_call 140; refine hp.mono ?_; rintro r w2 ⟨rfl, hw2⟩; rw [hw2]; clear hw2)
  go_region_with (go_at_call 141; refine hw1.mono ?_; rintro r w3 ⟨⟨x3, rfl⟩, hU3⟩; have hf3 := hU3.ob HF.out (by simpa using hne); have g4 := h_cell hf3 4 rfl; have z4 := h_fz hf3 4)
  all_goals
    go_wp2_with fail
    go_end0
  all_goals exact ⟨⟨_, rfl⟩, (hU3.mono (by simp)).trans (Turn.set w3 e 4 _ (by simp))⟩

def cnt (i : Nat) : Nat := (if 0 < i then 1 else 0) + (if 1 < i then 1 else 0) + (if 3 < i then 1 else 0)
theorem cnt_le (i : Nat) : cnt i ≤ 3 := by unfold cnt; split <;> split <;> split <;> omega
theorem cnt_yes (i : Nat) (h : i = 0 ∨ i = 1 ∨ i = 3) : cnt (i + 1) = cnt i + 1 := by rcases h with rfl | rfl | rfl <;> rfl
theorem cnt_no (i : Nat) (h : ¬ (i = 0 ∨ i = 1 ∨ i = 3)) : cnt (i + 1) = cnt i := by
  unfold cnt
  have h1 : (0 < i + 1) ↔ (0 < i) := by omega
  have h2 : (1 < i + 1) ↔ (1 < i) := by omega
  have h3 : (3 < i + 1) ↔ (3 < i) := by omega
  simp only [h1, h2, h3]
theorem info3 : (Tryz.prog.info? 3).map (fun i => (i.zero, i.size, i.bytes)) = some (some (.int .i64 0), 1, 8) := by kernel_rfl
theorem ix_any (so fi re i : Nat) (hi : i < 16) : ((i = 0 ∨ i = 1 ∨ i = 3) → ∃ T v, ∀ w, (Instr.index 117 (.agg (hsB so fi re)) (.int .i64 i)).run Tryz.prog w = .ok (.iface T v) w) ∧ (¬ (i = 0 ∨ i = 1 ∨ i = 3) → ∀ w, (Instr.index 117 (.agg (hsB so fi re)) (.int .i64 i)).run Tryz.prog w = .ok .nilIface w) := by
  have h : i = 0 ∨ i = 1 ∨ i = 2 ∨ i = 3 ∨ i = 4 ∨ i = 5 ∨ i = 6 ∨ i = 7 ∨ i = 8 ∨ i = 9 ∨ i = 10 ∨ i = 11 ∨ i = 12 ∨ i = 13 ∨ i = 14 ∨ i = 15 := by omega
  rcases h with rfl | rfl | rfl | rfl | rfl | rfl | rfl | rfl | rfl | rfl | rfl | rfl | rfl | rfl | rfl | rfl
  · exact ⟨fun _ => ⟨135, ptr so, fun _ => by kernel_rfl⟩, fun h => absurd (by decide) h⟩
  · exact ⟨fun _ => ⟨191, ptr fi, fun _ => by kernel_rfl⟩, fun h => absurd (by decide) h⟩
  · exact ⟨fun h => absurd h (by decide), fun _ _ => by kernel_rfl⟩
  · exact ⟨fun _ => ⟨96, ptr re, fun _ => by kernel_rfl⟩, fun h => absurd (by decide) h⟩
  · exact ⟨fun h => absurd h (by decide), fun _ _ => by kernel_rfl⟩
  · exact ⟨fun h => absurd h (by decide), fun _ _ => by kernel_rfl⟩
  · exact ⟨fun h => absurd h (by decide), fun _ _ => by kernel_rfl⟩
  · exact ⟨fun h => absurd h (by decide), fun _ _ => by kernel_rfl⟩
  · exact ⟨fun h => absurd h (by decide), fun _ _ => by kernel_rfl⟩
  · exact ⟨fun h => absurd h (by decide), fun _ _ => by kernel_rfl⟩
  · exact ⟨fun h => absurd h (by decide), fun _ _ => by kernel_rfl⟩
  · exact ⟨fun h => absurd h (by decide), fun _ _ => by kernel_rfl⟩
  · exact ⟨fun h => absurd h (by decide), fun _ _ => by kernel_rfl⟩
  · exact ⟨fun h => absurd h (by decide), fun _ _ => by kernel_rfl⟩
  · exact ⟨fun h => absurd h (by decide), fun _ _ => by kernel_rfl⟩
  · exact ⟨fun h => absurd h (by decide), fun _ _ => by kernel_rfl⟩

set_option maxRecDepth 100000 in
set_option maxHeartbeats 4000000 in
theorem fds_c (t k so fi re : Nat) (w : World) (hT : TbAt w t k (hsB so fi re)) :
    Calls Tryz.prog 22 #[ptr t] w fun e w' => (∃ a c, e = .returned (.slice a 3 c)) ∧ Below w.heap.size w w' := by
  have c0 := tb_cell' hT 0 1 rfl rfl
  have c1 := tb_cell' hT 1 2 rfl rfl
  have c2 := tb_cell' hT 2 3 rfl rfl
  have c3 := tb_cell' hT 3 4 rfl rfl
  have c4 := tb_cell' hT 4 5 rfl rfl
  have c5 := tb_cell' hT 5 6 rfl rfl
  have c6 := tb_cell' hT 6 7 rfl rfl
  have c7 := tb_cell' hT 7 8 rfl rfl
  have c8 := tb_cell' hT 8 9 rfl rfl
  have c9 := tb_cell' hT 9 10 rfl rfl
  have c10 := tb_cell' hT 10 11 rfl rfl
  have c11 := tb_cell' hT 11 12 rfl rfl
  have c12 := tb_cell' hT 12 13 rfl rfl
  have c13 := tb_cell' hT 13 14 rfl rfl
  have c14 := tb_cell' hT 14 15 rfl rfl
  have c15 := tb_cell' hT 15 16 rfl rfl
  obtain ⟨i3, hi3, hz0, hz1, hz2⟩ := info_parts info3
  have q1 := nil_neq
  have q2 := nil_nnil
  clear hT
  go_enter Tryz.func22, Tryz.ntmps22
  go_wp2_with fail
  clear c0 c1 c2 c3 c4 c5 c6 c7 c8 c9 c10 c11 c12 c13 c14 c15
  go_loopg [3, 10] 16 (fun g v3 v10 wr => ∃ (i : Nat) (a : Option Addr) (c : Nat) (xs : List Value), i + g = 16 ∧ v10 = .int .i64 i ∧ v3 = .slice a (cnt i) c ∧ Hid (wr.ownsRow w.heap.size 3 1 (.slice a (cnt i) c) (cnt i) xs ∧ Below w.heap.size w wr))
  case atStart => exact ⟨0, none, 0, [], rfl, rfl, rfl, World.ownsRow_nil _ _ _ _, Below.refl _ _⟩
  case round =>
    obtain ⟨i, a, c, xs, hig, rfl, rfl, HI⟩ := hrel
    cases gk with
    | zero =>
      obtain rfl : i = 16 := by omega
      go_wp2_with fail
      go_ret
      exact ⟨⟨a, c, rfl⟩, HI.out.2⟩
    | succ g =>
      have hlt : (i : Int) < 16 := by omega
      obtain ⟨hy, hn⟩ := ix_any so fi re i (by omega)
      by_cases hi : i = 0 ∨ i = 1 ∨ i = 3
      · obtain ⟨T, v, hix⟩ := hy hi
        have hcl := cnt_le i
        have HC := Lib.hid (cnt_yes i hi)
        obtain ⟨ho, hB⟩ := HI.out
        have hz := hB.size
        generalize hce : cnt i = ci at ho hcl HC ⊢
        clear hy hn hi hce
        go_wp2_with (at_builtin; refine wpList_append_lies _ rfl (.tmp 16) (.tmp 18) 37 rfl w.heap.size 3 i3 (.int .i64 0) 1 8 Tryz.underlying37 hi3 hz0 hz1 hz2 rfl (by decide) (.slice a ci c) ci xs rfl (ho.alloc _) ⟨wr.heap.size, 0, none⟩ 1 1 [.int .i64 i] rfl rfl (World.news_of_block (cs := #[.int .i64 i]) (al_new _ _ rfl)) (by simp [Value.oneCell']) (by decide) (by unfold maxLen; omega) (by omega) (by simp; omega) _ rfl ?_; intro g2 cap2 w2 hown hgrow hat hlt2)
        go_roundg g
        case measure => omega
        case rel =>
          refine ⟨i + 1, some ⟨g2, 0, none⟩, cap2, xs ++ [.int .i64 i], by omega, by go_num, by rw [HC.out], ?_, ?_⟩
          · rw [HC.out]; exact hown
          · exact (hB.alloc hz _).grown hgrow (by simp; omega) (fun j ej => own_ge ho ej)
      · have hix := hn hi
        have HC := Lib.hid (cnt_no i hi)
        clear hy hn hi
        go_wp2_with fail
        go_roundg g
        case measure => omega
        case rel => exact ⟨i + 1, a, c, xs, by omega, by go_num, by rw [HC.out], by rw [HC.out]; exact HI.out⟩
end Go.Proofs.YtbbmihlabllliaaGreatDoor
