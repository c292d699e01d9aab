/- String: an expression told. -/
import Derived.Deep.LoopGhost
import Derived.Test.YtlekfdkahlobiaaGreatDoorHRev
import Derived.Test.YtlekfdkahlobiaaGreatDoorGLaw3
import Derived.Test.YtlekfdkahlobiaaGreatDoorHItems
import Derived.Test.YtlekfdkahlobiaaGreatDoorHNd1
import Derived.Deep.RegionHeld3
import Derived.Test.YtlekfdkahlobiaaGreatDoorHRd1
namespace Go.Proofs.YtlekfdkahlobiaaGreatDoor.Re
open Go.Proofs.YtlekfdkahlobiaaGreatDoor.Tr
open Go.RowKit

theorem text_ne (x : Nd) : x.text.length ≠ 0 := by
  obtain ⟨k, p, m, n, l⟩ := x
  rw [Nd.text]
  repeat' split
  all_goals simp [setT]
theorem ItOk.ptr {w : World} {i : It} (h : ItOk w i) : ∃ q : Option Addr, i.v = .pointer q := by
  unfold ItOk at h
  split at h
  · exact ⟨none, h⟩
  · obtain ⟨b, hb, _⟩ := h.1.ptr
    exact ⟨_, hb⟩
theorem BlAt.keep {B b : Nat} {l : List UInt8} {w w' : World} (h : BlAt B b l w) (hk : ∀ (c : Nat) (cs : Array Value) (T : Nat), T = 62 ∨ T = 5 → w.heap[c]? = some (.cells cs T) → w'.heap[c]? = some (.cells cs T)) : BlAt B b l w' := by
  rcases h with ⟨hB, v, hb, ho, hne⟩ | ⟨hB, v, hb, ho, hne⟩
  · exact .inl ⟨hB, v, hk _ _ _ (.inl rfl) hb, row_keep ho fun g cur hg => hk _ _ _ (.inr rfl) hg, hne⟩
  · exact .inr ⟨hB, v, hk _ _ _ (.inl rfl) hb, row_keep ho fun g cur hg => hk _ _ _ (.inr rfl) hg, hne⟩
theorem Bar.blk {g c : Nat} {w w' : World} {cs cs' : Array Value} {T T' : Nat} (h : Bar g w w') (hg : w.heap[g]? = some (.cells cs T)) (hc : w.heap[c]? = some (.cells cs' T')) (hT : T' ≠ T) : w'.heap[c]? = some (.cells cs' T') :=
  (h.block c (h_lt hc) (fun e => by
    rw [e, hg] at hc
    injection hc with hc
    injection hc with _ h2 _
    exact hT h2.symm)).trans hc
def ndT (o : Option Nd) : List UInt8 := match o with | none => [] | some y => y.text
def ndW (o : Option Nd) : Nat := match o with | none => 0 | some y => y.wt
theorem say_T (t : List UInt8) (v : Value) (o : Option Nd) : It.say ⟨t, v, o⟩ = t ++ ndT o := rfl
theorem wt_W (t : List UInt8) (v : Value) (o : Option Nd) : It.wt ⟨t, v, o⟩ = 1 + ndW o := rfl
/-- Between two rounds. -/
structure StI (w : World) (x : Nd) (wr : World) (v : Value) (L : List It) (out : List UInt8) : Prop where
  say : x.text = out ++ sayL L.reverse
  row : ItR wr (w.heap.size + 1) v L
  bld : BlAt w.heap.size w.heap.size out wr
  bel : Below w.heap.size w wr
  sm : ∀ i ∈ L, ∀ y, i.nd = some y → y.size ≤ 30000
theorem ItR.open {w : World} {base : Nat} {v : Value} {L : List It} {i : It} (h : ItR w base v (L ++ [i])) : ∃ g cap cur, v = .slice (some ⟨g, 0, none⟩) (L.length + 1) cap ∧ base ≤ g ∧ w.heap[g]? = some (.cells cur 64) ∧ L.length + 1 ≤ cap ∧ cap ≤ 9223372036854775807 ∧ cur.size = cap * 2 ∧ w.cell? ⟨g, L.length * 2, none⟩ = some (.string (bs i.tx)) ∧ w.cell? ⟨g, L.length * 2 + 1, none⟩ = some i.v ∧ ItR w base (.slice (some ⟨g, 0, none⟩) L.length cap) L := by
  have hr := h.row
  rw [List.length_append] at hr
  rcases hr.2 with ⟨_, h0⟩ | ⟨g, cap, cur, rfl, hb, hg, hle, hcap, hsz, ht⟩
  · simp at h0
  · obtain ⟨a1, a2⟩ := itCells_at (l := L ++ [i]) (i := L.length) (p := i) (by simp)
    have hl : (L ++ [i]).length = L.length + 1 := by simp
    simp only [List.length_cons, List.length_nil] at hle ht
    rw [← ht, List.getElem?_take, if_pos (by omega)] at a1 a2
    refine ⟨g, cap, cur, rfl, hb, hg, hle, hcap, hsz, h_cell hg _ (by simpa using a1), h_cell hg _ (by simpa using a2), ?_, fun j hj => h.ok j (by simp [hj])⟩
    have := row_take (k := L.length) hr (by simp)
    rw [itCells_app, List.take_append_of_le_length (by rw [itCells_len]; omega), List.take_of_length_le (by rw [itCells_len]; omega)] at this
    exact this
theorem ItR.keepB {w w' : World} {base : Nat} {v : Value} {L : List It} (h : ItR w base v L) (hk : BKeep w w') : ItR w' base v L :=
  ⟨row_keep h.row fun g cur hg => hk.blk g cur _ (by decide) (by decide) hg, fun i hi => (h.ok i hi).keep hk.nkeep⟩
theorem itCells_one {L : List It} (h : ∀ i ∈ L, ∃ q : Option Addr, i.v = .pointer q) : ∀ u ∈ itCells L, u.oneCell' = true := by
  intro u hu
  obtain ⟨i, hi, h2⟩ := List.mem_flatMap.1 hu
  obtain ⟨q, hq⟩ := h i hi
  rcases List.mem_cons.1 h2 with rfl | h2
  · rfl
  · rcases List.mem_singleton.1 h2 with rfl
    rw [hq]
    rfl
/-- Behind a node's items, turned. -/
structure TnI (w : World) (w4 : World) (g g3 cap : Nat) (L0 M : List It) (out : List UInt8) : Prop where
  row : ItR w4 (w.heap.size + 1) (.slice (some ⟨g, 0, none⟩) L0.length cap) L0
  bld : BlAt w.heap.size w.heap.size out w4
  bel : Below w.heap.size w w4
  news : ∀ (j : Nat) (u : Value), (itCells M.reverse)[j]? = some u → w4.cell? ((⟨g3, 0, none⟩ : Addr).add j) = some u
  ok : ∀ i ∈ M.reverse, ItOk w4 i
theorem turn_ok {w w2 w3 w4 : World} {g g3 cap cap3 k : Nat} {L0 M : List It} {out : List UInt8} {cur3 : Array Value} (hR : ItR w2 (w.heap.size + 1) (.slice (some ⟨g, 0, none⟩) L0.length cap) L0) (hgl : g < w2.heap.size) (hbl : BlAt w.heap.size w.heap.size out w2) (hB : Below w.heap.size w w2) (hB3 : Below w2.heap.size w2 w3) (hg3 : w3.heap[g3]? = some (.cells cur3 64)) (hb3 : w2.heap.size ≤ g3) (hok : ∀ i ∈ M, ItOk w3 i) (hrv : RvI g3 cap3 M w3 w4 k M.reverse) : TnI w w4 g g3 cap L0 M out := by
  have hbar := hrv.bar
  have hN : NKeep w3 w4 := NKeep.bar hbar hg3 (by decide)
  have h3 := hR.below hB3
  have hz := hB.size
  refine ⟨⟨?_, fun i hi => (h3.ok i hi).keep hN⟩, ?_, ?_, ?_, fun i hi => (hok i (by simpa using hi)).keep hN⟩
  · refine ⟨h3.row.1, h3.row.2.imp id ?_⟩
    rintro ⟨g', c, cu, e, h4, h5, h6⟩
    cases e
    exact ⟨g, cap, cu, rfl, h4, (hbar.block g (h_lt h5) (by omega)).trans h5, h6⟩
  · exact (hbl.keep fun c cs T _ hc => (hB3.block c (h_lt hc)).trans hc).keep fun c cs T hT hc => hbar.blk hg3 hc (by rcases hT with rfl | rfl <;> decide)
  · exact (hB.trans (hB3.mono hz)).trans ((hbar.below (Nat.le_of_lt (h_lt hg3))).mono (by omega))
  · obtain ⟨cur, c1, c2, c3⟩ := hrv.row
    intro j u hu
    have hj := (List.getElem?_eq_some_iff.1 hu).1
    rw [itCells_len] at hj
    rw [← c3, List.getElem?_take, if_pos hj] at hu
    rw [Addr.add_lit, Nat.zero_add]
    exact h_cell c1 j (by simpa using hu)
set_option maxHeartbeats 4000000 in
set_option maxRecDepth 100000 in
theorem string_c {w : World} {v : Value} {x : Nd} (hA : AmS w) (h : ReP w v x) (hw : x.wf = true) (hz : x.size ≤ 30000) :
    Calls Tryz.prog 11 #[v] w fun e w' => e = .returned (.string (bs x.text)) ∧ Below w.heap.size w w' := by
  obtain ⟨b, v0, rfl, hb, hn⟩ := h
  have htl := text_len x hw
  have hwt := wt_size x
  obtain ⟨i0, hi, hz0, hz1, hz2⟩ := p_info info_it
  have c0 := h_cell hb 0 rfl
  have hbl := h_lt hb
  obtain ⟨nb, rfl, hnl⟩ := hn.ptr
  have HA := Lib.hid hA
  have hB2 : Below w.heap.size w ((w.alloc (.cells #[.pointer none, .slice none 0 0] 62)).alloc (.cells #[.string ⟨#[]⟩, ptr nb] 64)) := ((Below.refl _ w).alloc (Nat.le_refl _) _).alloc (by simp) _
  have HI0 : Hid (StI w x ((w.alloc (.cells #[.pointer none, .slice none 0 0] 62)).alloc (.cells #[.string ⟨#[]⟩, ptr nb] 64)) (.slice (some ⟨w.heap.size + 1, 0, none⟩) 1 1) [ndI (ptr nb) x] []) := by
    refine ⟨by simp [sayL, It.say, ndI], ?_, ?_, hB2, fun i hi y hy => ?_⟩
    · have := it_one (w.alloc (.cells #[.pointer none, .slice none 0 0] 62)) [] (ptr nb) (some x) ⟨hn.keep (NKeep.of hB2), hw⟩
      rw [al_size] at this
      exact this
    · exact .inl ⟨Nat.le_refl _, _, al_old2 _ _ _, ⟨rfl, .inl ⟨rfl, rfl⟩⟩, by simp [Value.ownBlock]⟩
    · rcases List.mem_singleton.1 hi with rfl
      cases hy
      exact hz
  have HX : Hid (wtL [ndI (ptr nb) x] ≤ x.wt + 1 ∧ x.text.length ≤ 60000000 ∧ x.wt ≤ 180000) := ⟨by simp [wtL, It.wt, ndI]; omega, by omega, by omega⟩
  clear hA hn hb hB2 hwt htl hw
  go_enter Tryz.func11, Tryz.ntmps11
  go_wp2_with fail
  go_loopg [4, 5, 6] (x.wt + 1) (fun gk v4 _ _ wr => ∃ (va : Option Addr) (vc : Nat) (L : List It) (out : List UInt8), v4 = .slice va L.length vc ∧ L.length ≤ 200000 ∧ Hid (StI w x wr (.slice va L.length vc) L out ∧ wtL L ≤ gk ∧ gk ≤ x.wt + 1))
  case atStart => exact ⟨_, _, [ndI (ptr nb) x], [], rfl, by simp, (show _ ∧ _ from ⟨HI0.out, HX.out.1, Nat.le_refl _⟩)⟩
  case round =>
    obtain ⟨va, vc, L, out, rfl, hL, HI⟩ := hrel
    clear HI0
    rcases List.eq_nil_or_concat L with rfl | ⟨L0, it, e⟩
    · have hbs := bstring_c (B := w.heap.size) HI.out.1.bld (by
        intro e
        refine text_ne x ?_
        rw [HI.out.1.say, e]
        rfl)
      have HT : Hid (out = x.text ∧ Below w.heap.size w wr) := ⟨by rw [HI.out.1.say]; simp [sayL], HI.out.1.bel⟩
      clear HI
      go_wp2_with fail
      refine hbs.mono ?_
      rintro e w2 ⟨rfl, hB⟩
      go_wp2_with fail
      go_ret
      exact ⟨by first | rfl | (rw [HT.out.1]; rfl), HT.out.2.trans hB⟩
    · rw [List.concat_eq_append] at e
      subst e
      obtain ⟨g, cap, cur, e1, hbg, hg, hle, hcap, hsz, ca, cb, hR0⟩ := HI.out.1.row.open
      rw [List.length_append] at *
      simp only [List.length_cons, List.length_nil, Nat.zero_add] at *
      cases e1
      have hL0 : L0.length ≤ 200000 := by omega
      have hout : out.length + it.tx.length ≤ 60000000 := by
        have h1 := HX.out.2.1
        rw [HI.out.1.say, List.reverse_append] at h1
        simp only [List.reverse_cons, List.reverse_nil, List.nil_append, List.cons_append, sayL_cons, List.length_append, It.say] at h1
        omega
      have hok := HI.out.1.row.ok it (by simp)
      obtain ⟨q, hq⟩ := hok.ptr
      obtain ⟨tx, iv, ind⟩ := it
      cases hq
      have hout : out.length + tx.length ≤ 60000000 := hout
      have HS := HI.out.1.bel.size
      have hbw := bwrite_c (B := w.heap.size) (w := wr.alloc (.cells #[.string (bs tx), .pointer q] 64)) tx (HI.out.1.bld.keep fun c cs T _ hc => (al_old wr _ (h_lt hc)).trans hc) (by omega) (by simp; omega)
      have hKl : Below wr.heap.size wr (wr.alloc (.cells #[.string (bs tx), .pointer q] 64)) := (Below.refl _ wr).alloc (Nat.le_refl _) _
      have hKb := al_new wr (.cells #[.string (bs tx), .pointer q] 64)
      obtain ⟨gk, rfl⟩ : ∃ k, gk = k + 1 := by
        refine ⟨gk - 1, ?_⟩
        have h1 := HI.out.2.1
        have h2 := wtL_len (L0 ++ [⟨tx, .pointer q, ind⟩])
        rw [List.length_append] at h2
        simp only [List.length_cons, List.length_nil] at h2
        omega
      have HSm := Lib.hid HI.out.1.sm
      have HSay : Hid (x.text = (out ++ tx) ++ ndT ind ++ sayL L0.reverse) := by
        show _ = _
        rw [HI.out.1.say, List.reverse_append]
        simp [sayL_cons, say_T]
      have HWt : Hid (wtL L0 + ndW ind ≤ gk ∧ gk + 1 ≤ x.wt + 1) := by
        refine ⟨?_, HI.out.2.2⟩
        have h1 := HI.out.2.1
        rw [wtL_app, wtL, wtL, wt_W] at h1
        omega
      have HBel := Lib.hid HI.out.1.bel
      have HG := Lib.hid (And.intro hg (And.intro hKl hKb))
      have HR := Lib.hid hR0
      clear HI hR0 hg hKl hKb
      match ind, hok, HSm, HSay, HWt with
      | none, hok, HSm, HSay, HWt =>
        have eq0 : q = none := by cases hok; rfl
        subst eq0
        clear hok
        go_upto_region 7 with (go_at_call 24; refine hbw.mono ?_; rintro e w2 ⟨⟨e2, rfl⟩, hbl2, hB2, hK2⟩; have hkb2 := hK2.blk _ _ _ (by decide) (by decide) HG.out.2.2; have k1 := h_cell hkb2 1 rfl; have H2 := Lib.hid (And.intro hbl2 (And.intro hB2 hK2)); clear hbl2 hB2 hK2 hkb2)
        go_wp2_with fail
        go_roundg gk
        case measure => omega
        case rel =>
        refine ⟨some ⟨g, 0, none⟩, vc, L0, out ++ tx, rfl, hL0, (show _ ∧ _ from ⟨⟨?_, (HR.out.below HG.out.2.1).keepB H2.out.2.2, H2.out.1, (HBel.out.trans (HG.out.2.1.mono HS)).trans H2.out.2.1, fun i hi => HSm.out i (by simp [hi])⟩, ?_, ?_⟩)⟩
        · rw [HSay.out]; simp [ndT]
        · have := HWt.out.1; simpa [ndW] using this
        · have := HWt.out.2; omega
      | some y, hok, HSm, HSay, HWt =>
        obtain ⟨hN, hyw⟩ : NodeP wr (.pointer q) y ∧ y.wf = true := hok
        obtain ⟨pb, e, hpl⟩ := hN.ptr
        have e : q = some ⟨pb, 0, none⟩ := by cases e; rfl
        subst e
        have hyz : y.size ≤ 30000 := HSm.out ⟨tx, ptr pb, some y⟩ (by simp) y rfl
        have HY := Lib.hid (And.intro hN (And.intro hyw hyz))
        clear hok hN hyw hyz
        go_upto_region 9 with (first
          | (go_at_call 24; refine hbw.mono ?_; rintro e w2 ⟨⟨e2, rfl⟩, hbl2, hB2, hK2⟩; have hkb2 := hK2.blk _ _ _ (by decide) (by decide) HG.out.2.2; have k1 := h_cell hkb2 1 rfl; have HB2 := Lib.hid ((HBel.out.trans (HG.out.2.1.mono HS)).trans hB2); have H2 := Lib.hid (And.intro hbl2 hK2); have him := items_c (HA.out.keep HB2.out) ((HY.out.1.keep (NKeep.of HG.out.2.1)).keep hK2.nkeep) HY.out.2.1 HY.out.2.2; clear hbl2 hB2 hK2 hkb2)
          | (go_at_call 25; refine him.mono ?_; rintro e w3 ⟨u3, M, rfl, hr3, hit, hM, hB3⟩; rcases hr3.row.2 with ⟨_, h0⟩ | ⟨g3, cap3, cur3, rfl, hb3, hg3, hle3, hcap3, hsz3, ht3⟩; exact absurd (List.length_eq_zero_iff.1 h0) hM))
        have hMl : M.length ≤ 180000 := by
          have h1 := wtL_len M
          have h2 := hit.wt
          have h3 := wt_size y
          have h4 := HY.out.2.2
          omega
        have hrc := rev_c hM (by omega) hle3 hg3 hsz3 ht3 (fun i hi => (hr3.ok i hi).ptr)
        have hpos := List.length_pos_iff.2 hM
        have HTn : Hid (∀ w4 k, RvI g3 cap3 M w3 w4 k M.reverse → TnI w w4 g g3 vc L0 M (out ++ tx)) := fun w4 k h4 =>
          turn_ok ((HR.out.below HG.out.2.1).keepB H2.out.2) (Nat.lt_of_lt_of_le (h_lt HG.out.1) (Nat.le_trans HG.out.2.1.size H2.out.2.size)) H2.out.1 HB2.out hB3 hg3 hb3 hr3.ok h4
        have HIt := Lib.hid hit
        clear hit hr3 hM hg3 hsz3 ht3 hle3 hb3 hB3 hcap3 him
        go_wp2_with (first
          | (go_at_call 26; refine hrc.mono ?_; rintro e w4 ⟨rfl, k4, hrv⟩; have H4 := Lib.hid (HTn.out w4 k4 hrv); clear hrv)
          | (at_builtin; refine wpList_append_lies _ rfl _ _ 65 rfl (w.heap.size + 1) 64 i0 (.agg #[.string ⟨#[]⟩, .pointer none]) 2 24 Tryz.underlying65 hi hz0 hz1 hz2 rfl (by decide) (.slice (some ⟨g, 0, none⟩) L0.length vc) L0.length (itCells L0) rfl H4.out.row.row ⟨g3, 0, none⟩ M.length cap3 (itCells M.reverse) rfl (by rw [itCells_len, List.length_reverse]) H4.out.news (itCells_one fun i hi => (H4.out.ok i hi).ptr) hpos (by unfold maxLen; omega) (by omega) (by have := H4.out.bld; have h5 : w.heap.size < w4.heap.size := (by rcases this with h | h <;> exact h.lt); omega) _ rfl ?_; intro g5 cap5 w5 hown5 hgrow5 hat5 hlt5; have H5 := Lib.hid (And.intro hown5 hgrow5); clear hown5 hgrow5 hat5 hlt5))
        go_roundg gk
        case measure => omega
        case rel =>
        have hr5 := H4.out.row.app (M := M.reverse) H4.out.ok (by rw [List.length_reverse]; exact H5.out.1) H5.out.2
        have hw5 : wtL (L0 ++ M.reverse) ≤ gk := by
          have h1 := HWt.out.1
          have h2 := HIt.out.wt
          rw [wtL_app, wtL_rev]
          simp only [ndW] at h1
          omega
        have hgk := HWt.out.2
        have hwx := HX.out.2.2
        refine ⟨some ⟨g5, 0, none⟩, cap5, L0 ++ M.reverse, out ++ tx, by rw [List.length_append, List.length_reverse], ?_, (show _ ∧ _ from ⟨⟨?_, by rw [List.length_append, List.length_reverse]; exact hr5, ?_, ?_, ?_⟩, hw5, by omega⟩)⟩
        · have := wtL_len (L0 ++ M.reverse); omega
        · rw [HSay.out, List.reverse_append, List.reverse_reverse, sayL_app, HIt.out.say]
          simp [ndT]
        · exact H4.out.bld.keep fun c cs T hT hc => grown_other H4.out.row.row H5.out.2 (by rcases hT with rfl | rfl <;> decide) hc
        · exact H4.out.row.bel H4.out.bel (Nat.le_succ _) H4.out.bel.size H5.out.2
        · intro i hi z hz
          rcases List.mem_append.1 hi with hi | hi
          · exact HSm.out i (by simp [hi]) z hz
          · have h1 := HIt.out.sm i (by simpa using hi) z hz
            have h2 := HY.out.2.2
            omega
end Go.Proofs.YtlekfdkahlobiaaGreatDoor.Re

namespace Go.Proofs.YtlekfdkahlobiaaGreatDoor.Re
open Go.Proofs.YtlekfdkahlobiaaGreatDoor.Tr
open Go.RowKit

theorem make_re (n : Nat) (w : World) (hn : n ≤ 2097152) : ∃ w', (Instr.makeSlice 72 (.int .i64 (n : Int)) (.int .i64 (n : Int))).run Tryz.prog w = .ok (.slice (some ⟨w.heap.size, 0, none⟩) n n) w' ∧ (∃ cur, w'.heap[w.heap.size]? = some (.cells cur 48) ∧ cur.size = n * 2) ∧ Below w.heap.size w w' := by
  obtain ⟨i0, hi, hz0, hz1, hz2⟩ := p_info info_re
  obtain ⟨w2, hrun, hown, hgrow⟩ := run_make_full (P := Tryz.prog) w w.heap.size 72 48 i0 (.agg #[.pointer none, .int .i64 0]) 2 Tryz.underlying72 hi hz0 hz1 .i64 .i64 n (by rw [hz2]; omega) (by unfold maxLen; omega) (Nat.le_refl _)
  refine ⟨w2, hrun, ?_, ⟨hgrow.os, hgrow.tape, hgrow.output, hgrow.size, fun k hk => hgrow.block k hk (by simp)⟩⟩
  rcases hown.2 with ⟨e, _⟩ | ⟨g, cap, cur, e, hb, hg, hle, hcap, hsz, ht⟩
  · cases e
  · cases e
    exact ⟨cur, hg, hsz⟩
/-- A row of expressions that is being filled. -/
structure FlI (w wr : World) (g n : Nat) (vs : List (Value × Nd)) : Prop where
  row : ∃ cur, wr.heap[g]? = some (.cells cur 48) ∧ cur.size = n * 2 ∧ cur.toList.take (vs.length * 2) = reCells vs
  nd : ∀ (i : Nat) (p : Value × Nd), vs[i]? = some p → NodeP wr p.1 p.2
  bel : Below w.heap.size w wr
  ge : w.heap.size ≤ g
theorem FlI.below {w u u' : World} {g n : Nat} {vs : List (Value × Nd)} (h : FlI w u g n vs) (hB : Below u.heap.size u u') : FlI w u' g n vs := by
  obtain ⟨cur, h1, h2, h3⟩ := h.row
  exact ⟨⟨cur, (hB.block g (h_lt h1)).trans h1, h2, h3⟩, fun i p hp => (h.nd i p hp).keep (NKeep.of hB), h.bel.trans (hB.mono h.bel.size), h.ge⟩
theorem FlI.spot {w u : World} {g n : Nat} {vs : List (Value × Nd)} (h : FlI w u g n vs) (hl : vs.length < n) : (∃ a, u.cell? ⟨g, vs.length * 2, none⟩ = some a) ∧ (∃ a, u.cell? ⟨g, vs.length * 2 + 1, none⟩ = some a) ∧ ∀ k, u.frozen? ⟨g, k, none⟩ = false := by
  obtain ⟨cur, h1, h2, h3⟩ := h.row
  exact ⟨⟨_, h_cell h1 _ (Array.getElem?_eq_getElem (by omega))⟩, ⟨_, h_cell h1 _ (Array.getElem?_eq_getElem (by omega))⟩, fun k => h_fz h1 k⟩
theorem FlI.put {w u : World} {g n : Nat} {vs : List (Value × Nd)} (h : FlI w u g n vs) (hl : vs.length < n) {v : Value} {x : Nd} (hv : NodeP u v x) : FlI w ((u.setCell ⟨g, vs.length * 2, none⟩ v).setCell ⟨g, vs.length * 2 + 1, none⟩ (.int .i64 (szI x))) g n (vs ++ [(v, x)]) := by
  obtain ⟨cur, h1, h2, h3⟩ := h.row
  have h4 := h_set (h_set h1 (vs.length * 2) v) (vs.length * 2 + 1) (.int .i64 (szI x))
  have hk : NKeep u ((u.setCell ⟨g, vs.length * 2, none⟩ v).setCell ⟨g, vs.length * 2 + 1, none⟩ (.int .i64 (szI x))) := NKeep.bar ((Bar.set _ _ _ _).trans (Bar.set _ _ _ _)) h1 (by decide)
  refine ⟨⟨_, h4, by simp [h2], ?_⟩, fun i p hp => ?_, (h.bel.setCell (p := ⟨g, _, none⟩) h.ge _).setCell (p := ⟨g, _, none⟩) h.ge _, h.ge⟩
  · rw [List.length_append, reCells_app, ← h3]
    simp only [Array.toList_setIfInBounds, List.length_cons, List.length_nil]
    have hs : cur.toList.length = n * 2 := by simpa using h2
    apply List.ext_getElem?
    intro k
    rw [List.getElem?_take, List.getElem?_set, List.getElem?_set, List.length_set, hs]
    rcases Nat.lt_or_ge k (vs.length * 2) with hk | hk
    · rw [if_pos (by omega), if_neg (by omega), if_neg (by omega), List.getElem?_append_left (by rw [List.length_take]; omega), List.getElem?_take, if_pos hk]
    · rw [List.getElem?_append_right (by rw [List.length_take]; omega), List.length_take, hs, Nat.min_eq_left (by omega)]
      rcases Nat.lt_or_ge k ((vs.length + (0 + 1)) * 2) with hk2 | hk2
      · rw [if_pos hk2]
        rcases (show k = vs.length * 2 ∨ k = vs.length * 2 + 1 by omega) with rfl | rfl
        · rw [if_neg (by omega), if_pos rfl, if_pos (by omega), Nat.sub_self]; rfl
        · rw [if_pos rfl, if_pos (by omega), show vs.length * 2 + 1 - vs.length * 2 = 1 by omega]; rfl
      · rw [if_neg (by omega), List.getElem?_eq_none]
        simp [reCells]
        omega
  · by_cases hi : i < vs.length
    · rw [List.getElem?_append_left hi] at hp
      exact (h.nd i p hp).keep hk
    · rw [List.getElem?_append_right (by omega)] at hp
      rcases hj : i - vs.length with _ | j
      · rw [hj] at hp; cases hp; exact hv.keep hk
      · rw [hj] at hp; simp at hp
theorem FlI.rowV {w u : World} {g : Nat} {vs : List (Value × Nd)} (h : FlI w u g vs.length vs) (hl : vs.length ≤ 2097152) : RowV u (.slice (some ⟨g, 0, none⟩) vs.length vs.length) vs := by
  obtain ⟨cur, h1, h2, h3⟩ := h.row
  rw [List.take_of_length_le (by simp [h2])] at h3
  refine ⟨some ⟨g, 0, none⟩, vs.length, rfl, ⟨by omega, Nat.le_refl _⟩, .inr ⟨g, 0, rfl, ⟨fun _ => h_lt h1, fun i p hp => ?_, fun i p hp => ?_, h.nd⟩⟩⟩
  · rw [Nat.zero_add]
    refine h_cell h1 _ ?_
    rw [← Array.getElem?_toList, h3]
    exact (reCells_at hp).1
  · rw [Nat.zero_add]
    refine h_cell h1 _ ?_
    rw [← Array.getElem?_toList, h3]
    exact (reCells_at hp).2
/-- A new expression in a box of its own. -/
theorem re_box {w u : World} {x : Nd} {v : Value} (hB : Below w.heap.size w u) (hn : NodeP u v x) : ReP (u.alloc (.cells #[v, .int .i64 (szI x)] 48)) (ptr u.heap.size) x ∧ isPtr (u.alloc (.cells #[v, .int .i64 (szI x)] 48)) (ptr u.heap.size) ∧ Below w.heap.size w (u.alloc (.cells #[v, .int .i64 (szI x)] 48)) :=
  ⟨⟨_, v, rfl, al_new _ _, hn.keep (NKeep.of ((Below.refl _ u).alloc (Nat.le_refl _) _))⟩, ⟨_, rfl, h_lt (al_new _ _)⟩, hB.alloc hB.size _⟩
set_option maxHeartbeats 2000000 in
set_option maxRecDepth 100000 in
theorem literal_c (s : ByteArray) (fold : Bool) (w : World) (hs : s.size ≤ 1048576) :
    Calls Tryz.prog 12 #[.string s, .bool fold] w fun e w' => ∃ v, e = .returned v ∧ isPtr w' v ∧ ReP w' v (literalS fold s.data.toList) ∧ Below w.heap.size w w' := by
  obtain ⟨w2, hrun, ⟨cur, ho, hsz⟩, hB⟩ := make_re s.size w (by omega)
  have HI0 : Hid (FlI w w2 w.heap.size s.size []) := ⟨⟨cur, ho, hsz, by simp [reCells]⟩, fun i p hp => by simp at hp, hB, Nat.le_refl _⟩
  have hsl : s.data.toList.length = s.size := rfl
  have HSL := Lib.hid hsl
  clear ho hsz hB hsl
  go_enter Tryz.func12, Tryz.ntmps12
  go_wp2_with fail
  go_loopw [6, 13] (fun _ v13 wr => ∃ (i : Nat) (vs : List (Value × Nd)), i ≤ s.size ∧ v13 = .int .i64 (i : Int) ∧ Hid (FlI w wr w.heap.size s.size vs ∧ vs.length = i ∧ vs.map Prod.snd = (s.data.toList.take i).map (oneN fold))) (fun _ v13 _ => s.size - (intOf v13).toNat)
  case atStart => exact ⟨0, [], by omega, rfl, (show _ ∧ _ from ⟨HI0.out, rfl, rfl⟩)⟩
  case round =>
    obtain ⟨i, vs, hi, rfl, HI⟩ := hrel
    clear HI0
    by_cases hlt : i < s.size
    · have n1 : (i : Int) < (s.size : Int) := by omega
      have hon := only_c s[i] fold wr
      have HT : Hid ((s.data.toList.take (i + 1)).map (oneN fold) = (s.data.toList.take i).map (oneN fold) ++ [oneN fold s[i]]) := by
        show _ = _
        rw [List.take_add_one, List.getElem?_eq_getElem (by rw [HSL.out]; exact hlt), List.map_append]
        rfl
      have hos := fun u => ofSet_c (foldP fold fun d => d == s[i]) u
      have hvl := HI.out.2.1
      go_wp2_with (first
        | (go_at_call 29; refine hon.mono ?_; rintro e w3 ⟨rfl, hB3⟩; have H3 := Lib.hid (HI.out.1.below hB3); clear hB3)
        | (go_at_call 28; refine (hos _).mono ?_; rintro e w4 ⟨v4, rfl, hn4, hB4⟩; have hF4 := H3.out.below hB4; obtain ⟨⟨o1, s1⟩, ⟨o2, s2⟩, fz⟩ := hF4.spot (by omega); rw [hvl] at s1 s2; obtain ⟨pb, rfl, _⟩ := hn4.ptr; have H4 := Lib.hid (hF4.put (by omega) hn4); clear hn4 hB4 hF4))
      have h5 := H4.out
      rw [hvl] at h5
      exact ⟨⟨i + 1, vs ++ [(ptr pb, oneN fold s[i])], by omega, by go_num, (show _ ∧ _ from ⟨h5, by rw [List.length_append, hvl]; rfl, by rw [List.map_append, HI.out.2.2, HT.out]; rfl⟩)⟩, by simp [intOf]; omega⟩
    · obtain rfl : i = s.size := by omega
      have n1 : ¬ (s.size : Int) < (s.size : Int) := by omega
      obtain ⟨hF, hl, hm⟩ := HI.out
      rw [← hl] at hF
      have hc := cat_c (by omega) (hF.rowV (by omega))
      rw [hl] at hc
      have HM : Hid (joinN 4 (vs.map Prod.snd) = literalS fold s.data.toList ∧ Below w.heap.size w wr) := ⟨by rw [hm, List.take_of_length_le (by rw [HSL.out]; omega)]; rfl, hF.bel⟩
      clear hF hl hm HI
      go_wp2_with fail
      refine hc.mono ?_
      rintro e w3 ⟨v3, rfl, hn3, hB3⟩
      rw [HM.out.1] at hn3 ⊢
      obtain ⟨pb, rfl, _⟩ := hn3.ptr
      have HF := Lib.hid (re_box (HM.out.2.trans (hB3.mono HM.out.2.size)) hn3)
      clear hn3 hB3 hc
      go_wp2_with fail
      go_ret
      exact ⟨_, rfl, HF.out.2.1, HF.out.1, HF.out.2.2⟩
end Go.Proofs.YtlekfdkahlobiaaGreatDoor.Re

namespace Go.Proofs.YtlekfdkahlobiaaGreatDoor.Re
open Go.Proofs.YtlekfdkahlobiaaGreatDoor.Tr
open Go.RowKit

/-- Pointers to expressions, as they lie in a row. -/
theorem rowR_at {w : World} {a : Option Addr} {n cap : Nat} {l : List (Value × Nd)} (h : RowR ReP w (.slice a n cap) l) : n = l.length ∧ ∀ (j : Nat) (p : Value × Nd), l[j]? = some p → ∃ b off, a = some ⟨b, off, none⟩ ∧ w.cell? ⟨b, off + j, none⟩ = some p.1 ∧ ReP w p.1 p.2 := by
  rcases h with ⟨e, rfl⟩ | ⟨b, off, cap', e, h2, h3, h4⟩
  · cases e
    exact ⟨rfl, fun j p hp => by simp at hp⟩
  · cases e
    exact ⟨rfl, fun j p hp => ⟨b, off, rfl, (h4 j p hp).1, (h4 j p hp).2.2⟩⟩
set_option maxHeartbeats 2000000 in
set_option maxRecDepth 100000 in
theorem any_c {v : Value} {l : List (Value × Nd)} {w : World} (hR : RowR ReP w v l) (hl : l.length ≤ 1048576) :
    Calls Tryz.prog 17 #[v] w fun e w' => ∃ v', e = .returned v' ∧ isPtr w' v' ∧ ReP w' v' (anyS (l.map Prod.snd)) ∧ Below w.heap.size w w' := by
  obtain ⟨a, n, cap, rfl⟩ : ∃ a n cap, v = .slice a n cap := by
    rcases hR with ⟨rfl, _⟩ | ⟨b, off, cap, rfl, _⟩
    · exact ⟨_, _, _, rfl⟩
    · exact ⟨_, _, _, rfl⟩
  obtain ⟨rfl, hat⟩ := rowR_at hR
  clear hR
  obtain ⟨w2, hrun, ⟨cur, ho, hsz⟩, hB⟩ := make_re l.length w (by omega)
  have HI0 : Hid (FlI w w2 w.heap.size l.length []) := ⟨⟨cur, ho, hsz, by simp [reCells]⟩, fun i p hp => by simp at hp, hB, Nat.le_refl _⟩
  have HAt := Lib.hid hat
  clear ho hsz hB hat
  go_enter Tryz.func17, Tryz.ntmps17
  go_wp2_with fail
  go_loopw [4, 5, 12] (fun _ _ v12 wr => ∃ (i : Nat) (vs : List (Value × Nd)), i ≤ l.length ∧ v12 = .int .i64 (i : Int) ∧ Hid (FlI w wr w.heap.size l.length vs ∧ vs.length = i ∧ vs.map Prod.snd = (l.take i).map Prod.snd)) (fun _ _ v12 _ => l.length - (intOf v12).toNat)
  case atStart => exact ⟨0, [], by omega, rfl, (show _ ∧ _ from ⟨HI0.out, rfl, rfl⟩)⟩
  case round =>
    obtain ⟨i, vs, hi, rfl, HI⟩ := hrel
    clear HI0
    by_cases hlt : i < l.length
    · have n1 : (i : Int) < (l.length : Int) := by omega
      obtain ⟨q, hq⟩ : ∃ q, l[i]? = some q := ⟨_, List.getElem?_eq_getElem hlt⟩
      obtain ⟨b, off, rfl, hcq, rb, v0, e, hrb, hn0⟩ := HAt.out i q hq
      have HT : Hid ((l.take (i + 1)).map Prod.snd = (l.take i).map Prod.snd ++ [q.2]) := by
        show _ = _
        rw [List.take_add_one, hq, List.map_append]
        rfl
      obtain ⟨qv, qx⟩ := q
      cases e
      have hBw := HI.out.1.bel
      have cq := cell_below hBw hcq
      have r0 := (hBw.block rb (h_lt hrb)).trans hrb
      have r1 := h_cell r0 0 rfl
      have r2 := h_cell r0 1 rfl
      have hn4 := hn0.keep (NKeep.of hBw)
      have hvl := HI.out.2.1
      obtain ⟨⟨o1, s1⟩, ⟨o2, s2⟩, fz⟩ := HI.out.1.spot (by omega)
      rw [hvl] at s1 s2
      obtain ⟨pb, rfl, _⟩ := hn4.ptr
      have H4 := Lib.hid (HI.out.1.put (by omega) hn4)
      clear hn4 hn0 hq hcq hrb r0 hBw
      go_wp2_with fail
      have h5 := H4.out
      rw [hvl] at h5
      exact ⟨⟨i + 1, vs ++ [(ptr pb, qx)], by omega, by go_num, (show _ ∧ _ from ⟨h5, by rw [List.length_append, hvl]; rfl, by rw [List.map_append, HI.out.2.2, HT.out]; rfl⟩)⟩, by simp [intOf]; omega⟩
    · obtain rfl : i = l.length := by omega
      have n1 : ¬ (l.length : Int) < (l.length : Int) := by omega
      obtain ⟨hF, hvl, hm⟩ := HI.out
      rw [← hvl] at hF
      have hc := alt_c (by omega) (hF.rowV (by omega))
      rw [hvl] at hc
      have HM : Hid (anyS (vs.map Prod.snd) = anyS (l.map Prod.snd) ∧ Below w.heap.size w wr) := ⟨by rw [hm, List.take_length], hF.bel⟩
      clear hF hvl hm HI
      go_wp2_with fail
      refine hc.mono ?_
      rintro e w3 ⟨v3, rfl, hn3, hB3⟩
      rw [HM.out.1] at hn3 ⊢
      obtain ⟨pb, rfl, _⟩ := hn3.ptr
      have HF := Lib.hid (re_box (HM.out.2.trans (hB3.mono HM.out.2.size)) hn3)
      clear hn3 hB3 hc
      go_wp2_with fail
      go_ret
      exact ⟨_, rfl, HF.out.2.1, HF.out.1, HF.out.2.2⟩
end Go.Proofs.YtlekfdkahlobiaaGreatDoor.Re
