/- A source: how it is made, how it is read. -/
import Derived.Test.YtbbmihlabllliaaGreatDoorKOps
namespace Go.Proofs.YtbbmihlabllliaaGreatDoor
open Go.RowKit Go.Shelf Go.Maps

set_option maxRecDepth 100000 in
set_option maxHeartbeats 2000000 in
theorem source_c (k th N b o n c : Nat) (tr fs : Value) (used now last : Int) (D : DataW Value) (d : List UInt8) (w : World) (hK : KnAt w k tr fs used now th last) (hM : w.ownsMap Tryz.prog 3 R th N D) (hN : N < 999999) (h0 : 0 ≤ last) (h1 : last < 4611686018427387903)
    (hd : d.length = n) (hn : n ≤ 1048576) (hc : ∀ j, j < n → w.cell? ⟨b, o + j, none⟩ = some (.int .u8 ((d[j]?.getD 0).toNat : Int))) :
    Calls Tryz.prog 19 #[ptr k, .slice (some ⟨b, o, none⟩) n c] w fun r w' => ∃ e rv, r = .returned (.int .i64 (last + 1)) ∧ w.heap.size ≤ e ∧ SoAt w' e 0 rv ∧ w'.ownsRow w.heap.size 5 1 rv n (u8s d) ∧ KnAt w' k tr fs used now th (last + 1) ∧ w'.ownsMap Tryz.prog 3 R th (N + 1) (D.put (ik (last + 1)) (.held (iSo e))) ∧ Turn [k, th] w w' := by
  have hkl := h_lt hK
  have hml := hM.lt
  have hcl := bclone_c b o n c d w hd (by omega) hc
  have HH := Lib.hid (And.intro hK hM)
  clear hK hM hc
  go_enter Tryz.func19, Tryz.ntmps19
  go_wp2_with fail
  refine hcl.mono ?_
  rintro e w1 ⟨rv, rfl, ho1, hB1⟩
  obtain ⟨a1, c1, rfl⟩ : ∃ a c, rv = .slice a n c := by
    rcases ho1.2 with ⟨rfl, rfl⟩ | ⟨g, cap, _, rfl, _⟩
    · exact ⟨_, _, rfl⟩
    · exact ⟨_, _, rfl⟩
  obtain ⟨hK, hM⟩ := HH.out
  have hz1 := hB1.size
  have hU1 : Turn [k, th] w w1 := Turn.below hB1
  have hK1 : KnAt w1 k tr fs used now th last := (Turn.below (S := []) hB1).ob hK (by simp)
  have hM1 : w1.ownsMap Tryz.prog 3 R th N D := (Turn.below (S := []) hB1).map hM (by simp)
  have hadd := add_c k th N tr fs (iSo w1.heap.size) used now last D (w1.alloc (.cells #[.int .i64 0, .slice a1 n c1] 138)) (al_old _ hK1) (hM1.alloc _) (by omega) h0 (by omega)
  have HA := Lib.hid (And.intro ho1 hU1)
  clear hcl HH hK hM hK1 hM1 ho1 hU1 hB1
  go_wp2_with fail
  refine hadd.mono ?_
  rintro r w2 ⟨rfl, hK2, hM2, hU2⟩
  obtain ⟨ho1, hU1⟩ := HA.out
  clear hadd HA
  go_wp2_with fail
  go_ret
  refine ⟨w1.heap.size, .slice a1 n c1, rfl, hz1, hU2.ob (al_new _ _ rfl) (by simp; omega), own_turn (ho1.alloc _) hU2 (fun g hg e => by have := own_ge ho1 hg; simp at e; omega), hK2, hM2, (hU1.trans (Turn.alloc _ _)).trans hU2⟩

set_option maxRecDepth 100000 in
set_option maxHeartbeats 2000000 in
theorem take_so (k e g o L cap m n : Nat) (c : Int) (d : List UInt8) (w : World) (hS : SoAt w e c (.slice (some ⟨g, o, none⟩) L cap)) (hd : d.length = L) (hL : L ≤ 1048576) (hn : n = min m L) (hcap : L ≤ cap) (hc : ∀ j, j < L → w.cell? ⟨g, o + j, none⟩ = some (.int .u8 ((d[j]?.getD 0).toNat : Int))) :
    Calls Tryz.prog 106 #[ptr k, iSo e, .int .i64 m] w fun r w' => ∃ v1 A, r = .returned v1 ∧ w'.ownsRow w.heap.size 5 1 v1 n (u8s (d.take n)) ∧ SoAt w' e c (.slice A (L - n) (cap - n)) ∧ (n < cap → A = some ⟨g, o + n, none⟩) ∧ Turn [e] w w' := by
  have s1 := h_cell hS 1 rfl
  have hel := h_lt hS
  have hmin : min (m : Int) (L : Int) = (n : Int) := by omega
  have hnc : ¬ (cap : Int) < (n : Int) := by omega
  have hnc2 : ¬ (L : Int) < (n : Int) := by omega
  have hcl := bclone_c g o n cap (d.take n) w (by rw [List.length_take]; omega) (by omega) (fun j hj => by rw [hc j (by omega), List.getElem?_take, if_pos hj])
  have t1 := ta_so_so
  have HS := Lib.hid hS
  obtain ⟨A, hA, hA2⟩ : ∃ A, (if cap = n then some (⟨g, o, none⟩ : Addr) else some ⟨g, o + n, none⟩) = A ∧ (n < cap → A = some ⟨g, o + n, none⟩) := ⟨_, rfl, fun h => by rw [if_neg (by omega)]⟩
  have HL := Lib.hid (And.intro hn hA2)
  clear hS hc hn hA2
  go_enter Tryz.func106, Tryz.ntmps106
  go_wp2_with (go_at_call 57; refine hcl.mono ?_; rintro r w2 ⟨v1, rfl, ho1, hB2⟩; have hS2 := (Turn.below (S := []) hB2).ob HS.out (by simp); have s2 := h_cell hS2 1 rfl; have z2 := h_fz hS2 1)
  go_ret
  have hs := h_set hS2 1 (.slice A (L - n) (cap - n))
  have hU : Turn [e] w2 (w2.setCell ⟨e, 1, none⟩ (.slice A (L - n) (cap - n))) := Turn.set w2 e 1 _ (by simp)
  exact ⟨v1, A, rfl, own_turn ho1 hU (fun g' hg' e' => by have := own_ge ho1 hg'; simp at e'; omega), by simpa using hs, HL.out.2, (Turn.below hB2).trans hU⟩
end Go.Proofs.YtbbmihlabllliaaGreatDoor
