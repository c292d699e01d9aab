/- Bytes that are laid into a pipe. -/
import Derived.Deep.AppendLies
import Derived.Deep.RegionLaw
import Derived.Deep.RegionHeld3
import Derived.Test.YtbbmihlabllliaaGreatDoorKTake
namespace Go.Proofs.YtbbmihlabllliaaGreatDoor
open Go.RowKit Go.Shelf Go.Maps

set_option maxRecDepth 100000 in
set_option maxHeartbeats 1000000 in
theorem give_we (k we re p base b o m c : Nat) (v : Value) (wc : Int) (d cs : List UInt8) (w : World) (hW : WeAt w we wc p) (hP : PpAt w p v re we) (ho : w.ownsRow base 5 1 v d.length (u8s d)) (hbase : base ≤ w.heap.size) (hd : d.length ≤ 64) (hcs : cs.length = m) (hm : 0 < m) (hm2 : m ≤ 64)
    (hc : ∀ j, j < m → w.cell? ⟨b, o + j, none⟩ = some (.int .u8 ((cs[j]?.getD 0).toNat : Int))) :
    Calls Tryz.prog 104 #[ptr k, iWe we, .slice (some ⟨b, o, none⟩) m c] w fun e w' => (∃ r, e = .returned r) ∧ ∃ v2, PpAt w' p v2 re we ∧ w'.ownsRow base 5 1 v2 (d ++ cs).length (u8s (d ++ cs)) ∧ (v2.ownBlock = v.ownBlock ∨ ∃ g, v2.ownBlock = some g ∧ w.heap.size ≤ g) ∧ Turn (p :: v.ownBlock.toList) w w' := by
  obtain ⟨i5, hi5, hz0, hz1, hz2⟩ := info_parts info5
  have hbp : v.ownBlock ≠ some p := row_ne ho hP (by decide)
  have hbw : v.ownBlock ≠ some we := row_ne ho hW (by decide)
  have w1 := h_cell hW 1 rfl
  have p0 := h_cell hP 0 rfl
  have z0 := h_fz hP 0
  have hpl := h_lt hP
  have t1 := ta_we_sk; have t2 := ta_we_we
  have hnews : ∀ j u, (u8s cs)[j]? = some u → w.cell? ((⟨b, o, none⟩ : Addr).add j) = some u := fun j u hu => by
    have hj : j < m := by have := (List.getElem?_eq_some_iff.1 hu).1; rw [u8s_length] at this; omega
    rw [Addr.add_lit, hc j hj, ← hu]
    simp [u8s, show j < cs.length by omega]
  have HW := Lib.hid hW
  have HP := Lib.hid hP
  have HO := Lib.hid ho
  have HN := Lib.hid hnews
  clear hW hP ho hnews hc
  go_enter Tryz.func104, Tryz.ntmps104
  go_wp2_with fail
  go_region_law (refine step_append_lies _ rfl (.tmp 36) (.tmp 37) 33 rfl base 5 i5 (.int .u8 0) 1 1 Tryz.underlying33 hi5 hz0 hz1 hz2 rfl (by decide) v d.length (u8s d) (by simp [Act.eval]) HO.out ⟨b, o, none⟩ m c (u8s cs) (by simp [Act.eval]) (by rw [u8s_length]; omega) HN.out (u8s_one cs) hm (by unfold maxLen; omega) (by omega) hbase _ rfl ?_; intro g cap w2 hown hgrow hat hlt; have hP2 := (hgrow.block p hpl (fun e => hbp e.symm)).trans HP.out; have hW2 := (hgrow.block we (h_lt HW.out) (fun e => hbw e.symm)).trans HW.out; have p02 := h_cell hP2 0 rfl; have z02 := h_fz hP2 0; have w12 := h_cell hW2 1 rfl)
  all_goals
    go_end0
    have hs := h_set hP2 0 (.slice (some ⟨g, 0, none⟩) (d.length + m) cap)
    refine ⟨⟨_, rfl⟩, .slice (some ⟨g, 0, none⟩) (d.length + m) cap, by simpa using hs, ?_, ?_, ?_⟩
    · rw [List.length_append, hcs]
      have hu : u8s (d ++ cs) = u8s d ++ u8s cs := by simp [u8s]
      rw [hu]
      refine own_turn hown (Turn.set (S := [p]) w2 p 0 _ (by simp)) (fun g' hg' e => ?_)
      have e2 : g = g' := by simpa [Value.ownBlock] using hg'
      have e3 : g' = p := by simpa using e
      rcases hat with h | h
      · exact hbp (by rw [h, e2, e3])
      · have : g = w.heap.size := h
        omega
    · rcases hat with h | h
      · exact .inl h.symm
      · exact .inr ⟨g, rfl, by have : g = w.heap.size := h; omega⟩
    · have hG : Turn (p :: v.ownBlock.toList) w w2 := ⟨hgrow.os, hgrow.tape, hgrow.output, hgrow.size, fun j hj hs => hgrow.block j hj (fun e => hs (by rw [← e]; simp))⟩
      exact hG.trans (Turn.set w2 p 0 _ (by simp))
end Go.Proofs.YtbbmihlabllliaaGreatDoor
