/- A table is freed: its things are lost. -/
import Derived.Test.YtfkoehfkiommpaaGreatDoorMFds
import Derived.Test.YtfkoehfkiommpaaGreatDoorPWrite
import Derived.Test.YtfkoehfkiommpaaGreatDoorMReadB
import Derived.Test.YtfkoehfkiommpaaGreatDoorMHold
namespace Go.Proofs.YtfkoehfkiommpaaGreatDoor
open Go.RowKit Go.Shelf Go.Maps

theorem m_lose_sk (e : Nat) (w : World) : (method 520 176 (ptr e) "toolchest/kern.lose").run Tryz.prog w = .ok (337, ptr e) w := by kernel_rfl
theorem m_gain_sk (e : Nat) (w : World) : (method 520 176 (ptr e) "toolchest/kern.gain").run Tryz.prog w = .ok (336, ptr e) w := by kernel_rfl

set_option maxRecDepth 100000 in
set_option maxHeartbeats 2000000 in
theorem leave_one_so (k e : Nat) (w : World) (hc : w.cell? ⟨e, 0, none⟩ = some (.int .i64 1)) (hz : w.frozen? ⟨e, 0, none⟩ = false) :
    Calls Tryz.prog 131 #[ptr k, iSo e] w fun r w' => (∃ v, r = .returned v) ∧ w' = w.setCell ⟨e, 0, none⟩ (.int .i64 0) := by
  have hn := nil_eq
  have hl := lose_c e 1 w hc hz (by decide) (by decide)
  have e1 : ((1 : Int) - 1 == 0) = true := by decide
  rw [e1] at hl
  have hm := m_lose_so
  have ht := ta_so_fi
  go_enter Tryz.func131, Tryz.ntmps131
  go_wp2_with (go_at_call 337; refine hl.mono ?_; rintro r w2 ⟨rfl, hw2⟩; rw [hw2]; clear hw2)
  go_end0
  exact ⟨⟨_, rfl⟩, rfl⟩
set_option maxRecDepth 100000 in
set_option maxHeartbeats 2000000 in
theorem leave_one_sk (k e : Nat) (w : World) (hc : w.cell? ⟨e, 0, none⟩ = some (.int .i64 1)) (hz : w.frozen? ⟨e, 0, none⟩ = false) :
    Calls Tryz.prog 131 #[ptr k, iSk e] w fun r w' => (∃ v, r = .returned v) ∧ w' = w.setCell ⟨e, 0, none⟩ (.int .i64 0) := by
  have hn := nil_eq
  have hl := lose_c e 1 w hc hz (by decide) (by decide)
  have e1 : ((1 : Int) - 1 == 0) = true := by decide
  rw [e1] at hl
  have hm := m_lose_sk
  have ht := ta_sk_fi
  go_enter Tryz.func131, Tryz.ntmps131
  go_wp2_with (go_at_call 337; refine hl.mono ?_; rintro r w2 ⟨rfl, hw2⟩; rw [hw2]; clear hw2)
  go_end0
  exact ⟨⟨_, rfl⟩, rfl⟩

set_option maxRecDepth 100000 in
set_option maxHeartbeats 2000000 in
theorem unset_any (t k fd : Nat) (hs : Array Value) (T e : Nat) (Q : World → Prop) (w : World) (hT : TbAt w t k hs) (hfd : fd < 16) (hx : hs[fd]? = some (.iface T (ptr e)))
    (hl : Calls Tryz.prog 131 #[ptr k, .iface T (ptr e)] (w.setCell ⟨t, 1 + fd, none⟩ .nilIface) fun r w' => (∃ v, r = .returned v) ∧ Q w') :
    Calls Tryz.prog 205 #[ptr t, .int .i64 fd] w fun r w' => (∃ v, r = .returned v) ∧ Q w' := by
  have hT2 := tb_set hT fd .nilIface
  have q0 := tb_kern hT2
  have q1 := tb_cell hT fd hx
  have z1 := h_fz hT (1 + fd)
  have q3 : 0 ≤ (fd : Int) ∧ (fd : Int) < 16 := by omega
  clear hT hT2
  go_enter Tryz.func205, Tryz.ntmps205
  go_wp2_with (go_at_call 131; refine hl.mono ?_; rintro r w2 ⟨⟨v, rfl⟩, hQ⟩)
  go_end0
  exact ⟨⟨_, rfl⟩, hQ⟩

/-- So many descriptors are freed. -/
structure FS (G : Gh) (w : World) (hs : Array Value) (c0 c1 c2 : Int) (rv v1 v2 : Value) : Prop where
  tb : TbAt w G.tb G.kn hs
  so : SoAt w G.so c0 rv
  k1 : SkAt w G.s1 c1 v1
  k2 : SkAt w G.s2 c2 v2
theorem fds3 (G : Gh) : fdsTo (has3 G) 16 = [0, 1, 2] := by kernel_rfl
theorem th3 (G : Gh) : ∀ i, i < 16 → IsTh ((has3 G)[i]?.getD .nilIface) := fun i hi => by
  have h : i = 0 ∨ i = 1 ∨ i = 2 ∨ i = 3 ∨ i = 4 ∨ i = 5 ∨ i = 6 ∨ i = 7 ∨ i = 8 ∨ i = 9 ∨ i = 10 ∨ i = 11 ∨ i = 12 ∨ i = 13 ∨ i = 14 ∨ i = 15 := by omega
  rcases h with rfl | rfl | rfl | rfl | rfl | rfl | rfl | rfl | rfl | rfl | rfl | rfl | rfl | rfl | rfl | rfl
  · exact .inr ⟨_, _, rfl⟩
  · exact .inr ⟨_, _, rfl⟩
  · exact .inr ⟨_, _, rfl⟩
  all_goals exact .inl rfl
section
variable {G : Gh} {w : World} {rv v1 v2 : Value}
theorem free_0 (h : FS G w #[iSo G.so, iSk G.s1, iSk G.s2, .nilIface, .nilIface, .nilIface, .nilIface, .nilIface, .nilIface, .nilIface, .nilIface, .nilIface, .nilIface, .nilIface, .nilIface, .nilIface] 1 1 1 rv v1 v2) : Calls Tryz.prog 205 #[ptr G.tb, .int .i64 (0 : Nat)] w fun r w' => (∃ v, r = .returned v) ∧ FS G w' #[.nilIface, iSk G.s1, iSk G.s2, .nilIface, .nilIface, .nilIface, .nilIface, .nilIface, .nilIface, .nilIface, .nilIface, .nilIface, .nilIface, .nilIface, .nilIface, .nilIface] 0 1 1 rv v1 v2 ∧ Turn [G.tb, G.so, G.s1, G.s2] w w' := by
  have n1 := h_ne h.tb h.so (by decide)
  have n2 := h_ne h.tb h.k1 (by decide)
  have n3 := h_ne h.tb h.k2 (by decide)
  have n4 := h_ne h.so h.k1 (by decide)
  have n5 := h_ne h.so h.k2 (by decide)
  have ht := tb_set h.tb 0 .nilIface
  have hs : SoAt (w.setCell ⟨G.tb, 1 + 0, none⟩ .nilIface) G.so 1 rv := s_other h.so n1.symm
  refine unset_any G.tb G.kn 0 _ 170 G.so _ w h.tb (by decide) rfl ((leave_one_so G.kn G.so _ (h_cell hs 0 rfl) (h_fz hs 0)).mono ?_)
  rintro r w' ⟨hr, rfl⟩
  refine ⟨hr, ⟨s_other ht n1, by simpa using h_set hs 0 (.int .i64 0), s_other (s_other h.k1 n2.symm) n4.symm, s_other (s_other h.k2 n3.symm) n5.symm⟩, (Turn.set w G.tb _ _ (by simp)).trans (Turn.set _ G.so 0 _ (by simp))⟩
theorem free_1 (h : FS G w #[.nilIface, iSk G.s1, iSk G.s2, .nilIface, .nilIface, .nilIface, .nilIface, .nilIface, .nilIface, .nilIface, .nilIface, .nilIface, .nilIface, .nilIface, .nilIface, .nilIface] 0 1 1 rv v1 v2) (hne : G.s1 ≠ G.s2) : Calls Tryz.prog 205 #[ptr G.tb, .int .i64 (1 : Nat)] w fun r w' => (∃ v, r = .returned v) ∧ FS G w' #[.nilIface, .nilIface, iSk G.s2, .nilIface, .nilIface, .nilIface, .nilIface, .nilIface, .nilIface, .nilIface, .nilIface, .nilIface, .nilIface, .nilIface, .nilIface, .nilIface] 0 0 1 rv v1 v2 ∧ Turn [G.tb, G.so, G.s1, G.s2] w w' := by
  have n1 := h_ne h.tb h.so (by decide)
  have n2 := h_ne h.tb h.k1 (by decide)
  have n3 := h_ne h.tb h.k2 (by decide)
  have n4 := h_ne h.so h.k1 (by decide)
  have ht := tb_set h.tb 1 .nilIface
  have hs : SkAt (w.setCell ⟨G.tb, 1 + 1, none⟩ .nilIface) G.s1 1 v1 := s_other h.k1 n2.symm
  refine unset_any G.tb G.kn 1 _ 176 G.s1 _ w h.tb (by decide) rfl ((leave_one_sk G.kn G.s1 _ (h_cell hs 0 rfl) (h_fz hs 0)).mono ?_)
  rintro r w' ⟨hr, rfl⟩
  refine ⟨hr, ⟨s_other ht n2, s_other (s_other h.so n1.symm) n4, by simpa using h_set hs 0 (.int .i64 0), s_other (s_other h.k2 n3.symm) hne.symm⟩, (Turn.set w G.tb _ _ (by simp)).trans (Turn.set _ G.s1 0 _ (by simp))⟩
theorem free_2 (h : FS G w #[.nilIface, .nilIface, iSk G.s2, .nilIface, .nilIface, .nilIface, .nilIface, .nilIface, .nilIface, .nilIface, .nilIface, .nilIface, .nilIface, .nilIface, .nilIface, .nilIface] 0 0 1 rv v1 v2) (hne : G.s1 ≠ G.s2) : Calls Tryz.prog 205 #[ptr G.tb, .int .i64 (2 : Nat)] w fun r w' => (∃ v, r = .returned v) ∧ FS G w' #[.nilIface, .nilIface, .nilIface, .nilIface, .nilIface, .nilIface, .nilIface, .nilIface, .nilIface, .nilIface, .nilIface, .nilIface, .nilIface, .nilIface, .nilIface, .nilIface] 0 0 0 rv v1 v2 ∧ Turn [G.tb, G.so, G.s1, G.s2] w w' := by
  have n1 := h_ne h.tb h.so (by decide)
  have n2 := h_ne h.tb h.k1 (by decide)
  have n3 := h_ne h.tb h.k2 (by decide)
  have n5 := h_ne h.so h.k2 (by decide)
  have ht := tb_set h.tb 2 .nilIface
  have hs : SkAt (w.setCell ⟨G.tb, 1 + 2, none⟩ .nilIface) G.s2 1 v2 := s_other h.k2 n3.symm
  refine unset_any G.tb G.kn 2 _ 176 G.s2 _ w h.tb (by decide) rfl ((leave_one_sk G.kn G.s2 _ (h_cell hs 0 rfl) (h_fz hs 0)).mono ?_)
  rintro r w' ⟨hr, rfl⟩
  refine ⟨hr, ⟨s_other ht n3, s_other (s_other h.so n1.symm) n5, s_other (s_other h.k1 n2.symm) hne, by simpa using h_set hs 0 (.int .i64 0)⟩, (Turn.set w G.tb _ _ (by simp)).trans (Turn.set _ G.s2 0 _ (by simp))⟩
theorem FS.turn {hs : Array Value} {c0 c1 c2 : Int} (h : FS G w hs c0 c1 c2 rv v1 v2) {w' : World} (hB : Below w.heap.size w w') : FS G w' hs c0 c1 c2 rv v1 v2 :=
  ⟨(Turn.below (S := []) hB).ob h.tb (by simp), (Turn.below (S := []) hB).ob h.so (by simp), (Turn.below (S := []) hB).ob h.k1 (by simp), (Turn.below (S := []) hB).ob h.k2 (by simp)⟩

/-- The table where so many are freed. -/
def tabI (G : Gh) (n : Nat) : Array Value := match n with | 0 => #[iSo G.so, iSk G.s1, iSk G.s2, .nilIface, .nilIface, .nilIface, .nilIface, .nilIface, .nilIface, .nilIface, .nilIface, .nilIface, .nilIface, .nilIface, .nilIface, .nilIface] | 1 => #[.nilIface, iSk G.s1, iSk G.s2, .nilIface, .nilIface, .nilIface, .nilIface, .nilIface, .nilIface, .nilIface, .nilIface, .nilIface, .nilIface, .nilIface, .nilIface, .nilIface] | 2 => #[.nilIface, .nilIface, iSk G.s2, .nilIface, .nilIface, .nilIface, .nilIface, .nilIface, .nilIface, .nilIface, .nilIface, .nilIface, .nilIface, .nilIface, .nilIface, .nilIface] | _ => #[.nilIface, .nilIface, .nilIface, .nilIface, .nilIface, .nilIface, .nilIface, .nilIface, .nilIface, .nilIface, .nilIface, .nilIface, .nilIface, .nilIface, .nilIface, .nilIface]
theorem row3 {w : World} {base : Nat} {v : Value} (h : w.ownsRow base 3 1 v ([0, 1, 2] : List Nat).length (ints [0, 1, 2])) : ∃ g cap, v = .slice (some ⟨g, 0, none⟩) 3 cap ∧ base ≤ g ∧ 3 ≤ cap ∧ w.cell? ⟨g, 0, none⟩ = some (.int .i64 0) ∧ w.cell? ⟨g, 1, none⟩ = some (.int .i64 1) ∧ w.cell? ⟨g, 2, none⟩ = some (.int .i64 2) := by
  rcases h.2 with ⟨_, h0⟩ | ⟨g, cap, cur, rfl, hb, hg, hle, _, _, ht⟩
  · cases h0
  · have hc : ∀ i, i < 3 → w.cell? ⟨g, i, none⟩ = (ints [0, 1, 2])[i]? := fun i hi => by
      rw [← ht, List.getElem?_take, if_pos (by simpa using hi)]
      simp [World.cell?, hg]
    exact ⟨g, cap, rfl, hb, hle, hc 0 (by decide), hc 1 (by decide), hc 2 (by decide)⟩
set_option maxRecDepth 100000 in
set_option maxHeartbeats 4000000 in
theorem free_fs (h : FS G w (has3 G) 1 1 1 rv v1 v2) (hne : G.s1 ≠ G.s2) :
    Calls Tryz.prog 166 #[ptr G.tb] w fun r w' => (∃ v, r = .returned v) ∧ FS G w' #[.nilIface, .nilIface, .nilIface, .nilIface, .nilIface, .nilIface, .nilIface, .nilIface, .nilIface, .nilIface, .nilIface, .nilIface, .nilIface, .nilIface, .nilIface, .nilIface] 0 0 0 rv v1 v2 ∧ Turn [G.tb, G.so, G.s1, G.s2] w w' := by
  have hf := fds_g G.tb G.kn _ _ _ _ _ _ _ _ _ _ _ _ _ _ _ _ w h.tb (th3 G)
  rw [show fdsTo #[iSo G.so, iSk G.s1, iSk G.s2, .nilIface, .nilIface, .nilIface, .nilIface, .nilIface, .nilIface, .nilIface, .nilIface, .nilIface, .nilIface, .nilIface, .nilIface, .nilIface] 16 = [0, 1, 2] from fds3 G] at hf
  have HH := Lib.hid h
  have hlt : G.tb < w.heap.size ∧ G.so < w.heap.size ∧ G.s1 < w.heap.size ∧ G.s2 < w.heap.size := ⟨h_lt h.tb, h_lt h.so, h_lt h.k1, h_lt h.k2⟩
  clear h
  go_enter Tryz.func166, Tryz.ntmps166
  go_wp2_with (go_at_call 204; refine hf.mono ?_; rintro e w1 ⟨v, rfl, ho, hB⟩; obtain ⟨g, cap, rfl, hge, hcap, d0, d1, d2⟩ := row3 ho)
  have HF : Hid (FS G w1 (has3 G) 1 1 1 rv v1 v2) := HH.out.turn hB
  have HT : Hid (Turn [G.tb, G.so, G.s1, G.s2] w w1) := Turn.below hB
  clear HH hf ho hB
  go_loopw [7] (fun i wr => ∃ n : Nat, i = .int .i64 n ∧ n ≤ 3 ∧ Hid (FS G wr (tabI G n) (if 0 < n then 0 else 1) (if 1 < n then 0 else 1) (if 2 < n then 0 else 1) rv v1 v2) ∧ Hid (Turn [G.tb, G.so, G.s1, G.s2] w wr) ∧ wr.cell? ⟨g, 0, none⟩ = some (.int .i64 0) ∧ wr.cell? ⟨g, 1, none⟩ = some (.int .i64 1) ∧ wr.cell? ⟨g, 2, none⟩ = some (.int .i64 2)) (fun i _ => 3 - (intOf i).toNat)
  case atStart => exact ⟨0, rfl, by decide, HF, HT, d0, d1, d2⟩
  case round =>
    obtain ⟨n, rfl, hn, HI, HU, e0, e1, e2⟩ := hrel
    clear HF HT d0 d1 d2
    have hn4 : n = 0 ∨ n = 1 ∨ n = 2 ∨ n = 3 := by omega
    rcases hn4 with rfl | rfl | rfl | rfl
    · have hu := free_0 (G := G) (show FS G wr (has3 G) 1 1 1 rv v1 v2 from HI.out)
      go_wp2_with (go_at_call 205; refine hu.mono ?_; rintro r w2 ⟨⟨v, rfl⟩, hF2, hT2⟩)
      exact ⟨⟨1, rfl, by decide, hF2, HU.out.trans hT2, hT2.cell e0 (by simp; omega), hT2.cell e1 (by simp; omega), hT2.cell e2 (by simp; omega)⟩, by decide⟩
    · have hu := free_1 (G := G) (show FS G wr (tabI G 1) 0 1 1 rv v1 v2 from HI.out) hne
      go_wp2_with (go_at_call 205; refine hu.mono ?_; rintro r w2 ⟨⟨v, rfl⟩, hF2, hT2⟩)
      exact ⟨⟨2, rfl, by decide, hF2, HU.out.trans hT2, hT2.cell e0 (by simp; omega), hT2.cell e1 (by simp; omega), hT2.cell e2 (by simp; omega)⟩, by decide⟩
    · have hu := free_2 (G := G) (show FS G wr (tabI G 2) 0 0 1 rv v1 v2 from HI.out) hne
      go_wp2_with (go_at_call 205; refine hu.mono ?_; rintro r w2 ⟨⟨v, rfl⟩, hF2, hT2⟩)
      exact ⟨⟨3, rfl, by decide, hF2, HU.out.trans hT2, hT2.cell e0 (by simp; omega), hT2.cell e1 (by simp; omega), hT2.cell e2 (by simp; omega)⟩, by decide⟩
    · go_wp2
      go_end0
      exact ⟨⟨_, rfl⟩, HI.out, HU.out⟩
end
end Go.Proofs.YtfkoehfkiommpaaGreatDoor

namespace Go.Proofs.YtfkoehfkiommpaaGreatDoor
open Go.RowKit Go.Shelf Go.Maps

theorem store_nilfn {w : World} {a : Addr} {v0 : Value} (hc : w.cell? a = some v0) (hz : w.frozen? a = false) : (store a .nilFunc).run Tryz.prog w = .ok () (w.setCell a .nilFunc) := by simp [store, Sem.run, hc, hz]
section
variable {G : Gh} {w : World} {rv v1 v2 : Value} {main past next : Value} {told steps st0 : Int} {once done : Bool}
set_option maxRecDepth 100000 in
set_option maxHeartbeats 2000000 in
theorem end_c (hp : w.cell? ⟨G.p, 1, none⟩ = some (ptr G.tb)) (hpm : G.p ≠ G.m) (h : McAt w G.m G.p main past told next once steps done st0) (hf : FS G w (has3 G) 1 1 1 rv v1 v2) (hne : G.s1 ≠ G.s2) (st : Int) :
    Calls Tryz.prog 133 #[ptr G.m, .int .i64 st] w fun e w' => (∃ r, e = .returned r) ∧ McAt w' G.m G.p .nilFunc (.slice none 0 0) told .nilFunc once steps true st ∧ FS G w' (tabI G 3) 0 0 0 rv v1 v2 ∧ Turn [G.m, G.tb, G.so, G.s1, G.s2] w w' := by
  have n1 := h_ne h hf.tb (by decide)
  have n2 := h_ne h hf.so (by decide)
  have n3 := h_ne h hf.k1 (by decide)
  have n4 := h_ne h hf.k2 (by decide)
  have m0 := h_cell h 0 rfl
  have m7 := h_cell h 7 rfl
  have y7 := h_fz h 7
  have m8 := h_cell h 8 rfl
  have y8 := h_fz h 8
  have ha : McAt (w.setCell ⟨G.m, 7, none⟩ (.bool true)) G.m G.p main past told next once steps true st0 := by simpa using h_set h 7 (.bool true)
  have hb : McAt ((w.setCell ⟨G.m, 7, none⟩ (.bool true)).setCell ⟨G.m, 8, none⟩ (.int .i64 st)) G.m G.p main past told next once steps true st := by simpa using h_set ha 8 (.int .i64 st)
  have hTb : Turn [G.m] w ((w.setCell ⟨G.m, 7, none⟩ (.bool true)).setCell ⟨G.m, 8, none⟩ (.int .i64 st)) := (Turn.set w G.m 7 _ (by simp)).trans (Turn.set _ G.m 8 _ (by simp))
  have HP := Lib.hid hp
  have HF := Lib.hid hf
  have HB := Lib.hid hb
  clear h hp hf ha hb
  go_enter Tryz.func133, Tryz.ntmps133
  go_wp2_with fail
  have hb := HB.out
  generalize (w.setCell ⟨G.m, 7, none⟩ (.bool true)).setCell ⟨G.m, 8, none⟩ (.int .i64 st) = W at hb hTb ⊢
  rw [store_nilfn (h_cell hb 1 rfl) (h_fz hb 1)]
  have hc : McAt (W.setCell ⟨G.m, 1, none⟩ .nilFunc) G.m G.p .nilFunc past told next once steps true st := by simpa using h_set hb 1 .nilFunc
  have hTc : Turn [G.m] w (W.setCell ⟨G.m, 1, none⟩ .nilFunc) := hTb.trans (Turn.set W G.m 1 _ (by simp))
  generalize W.setCell ⟨G.m, 1, none⟩ .nilFunc = W2 at hc hTc ⊢
  have c2 := h_cell hc 2 rfl
  have z2 := h_fz hc 2
  have hd : McAt (W2.setCell ⟨G.m, 2, none⟩ (.slice none 0 0)) G.m G.p .nilFunc (.slice none 0 0) told next once steps true st := by simpa using h_set hc 2 (.slice none 0 0)
  have HD := Lib.hid hd
  clear hb hTb hc hd m0 m7 y7 m8 y8 HB
  simp only [Result.andThen_ok]
  go_wp2_with fail
  have hd := HD.out
  have hTd : Turn [G.m] w (W2.setCell ⟨G.m, 2, none⟩ (.slice none 0 0)) := hTc.trans (Turn.set W2 G.m 2 _ (by simp))
  generalize W2.setCell ⟨G.m, 2, none⟩ (.slice none 0 0) = W3 at hd hTd ⊢
  rw [store_nilfn (h_cell hd 4 rfl) (h_fz hd 4)]
  have he : McAt (W3.setCell ⟨G.m, 4, none⟩ .nilFunc) G.m G.p .nilFunc (.slice none 0 0) told .nilFunc once steps true st := by simpa using h_set hd 4 .nilFunc
  have hTe : Turn [G.m] w (W3.setCell ⟨G.m, 4, none⟩ .nilFunc) := hTd.trans (Turn.set W3 G.m 4 _ (by simp))
  generalize W3.setCell ⟨G.m, 4, none⟩ .nilFunc = W4 at he hTe ⊢
  have e0 := h_cell he 0 rfl
  have p1 := hTe.cell HP.out (by simpa using hpm)
  have hF2 : FS G W4 (has3 G) 1 1 1 rv v1 v2 := ⟨hTe.ob HF.out.tb (by simpa using n1.symm), hTe.ob HF.out.so (by simpa using n2.symm), hTe.ob HF.out.k1 (by simpa using n3.symm), hTe.ob HF.out.k2 (by simpa using n4.symm)⟩
  have hfr := free_fs hF2 hne
  have HE := Lib.hid he
  have HTe := Lib.hid hTe
  clear hd hTd he hTe hF2 HD HP HF hTc c2 z2
  simp only [Result.andThen_ok]
  go_wp2_with (go_at_call 166; refine hfr.mono ?_; rintro r w2 ⟨⟨v, rfl⟩, hF3, hT3⟩)
  go_end0
  exact ⟨⟨_, rfl⟩, hT3.ob HE.out (by simp; exact ⟨n1, n2, n3, n4⟩), hF3, (HTe.out.mono (by simp)).trans (hT3.mono (by simp))⟩
end
end Go.Proofs.YtfkoehfkiommpaaGreatDoor

namespace Go.Proofs.YtfkoehfkiommpaaGreatDoor
open Go.RowKit Go.Shelf Go.Maps

end Go.Proofs.YtfkoehfkiommpaaGreatDoor

namespace Go.Proofs.YtfkoehfkiommpaaGreatDoor
open Go.RowKit Go.Shelf Go.Maps

theorem any_nnil (w : World) : (binOp .neq 20 .nilIface .nilIface).run Tryz.prog w = .ok (.bool false) w := by kernel_rfl
set_option maxHeartbeats 1000000 in
set_option maxRecDepth 100000 in
/-- What goOn defers, where main has ended: who ran before runs again. -/
theorem catch_idle {w : World} {bb bm p kn tb kin : Nat} {args env box : Value} {cwd : ByteArray} {l1 l2 l3 held peak : Int} {isChild : Bool} {m : Nat} {before runs : Value}
    (hbb : w.cell? ⟨bb, 0, none⟩ = some before) (hbm : w.cell? ⟨bm, 0, none⟩ = some (ptr m)) (hp : PrAt w p kn tb args env cwd l1 l2 l3 held peak box kin isChild runs) (m0 : w.cell? ⟨m, 0, none⟩ = some (ptr p)) (hb : before = .pointer none ∨ ∃ a, before = .pointer (some a)) :
    CallsD Tryz.prog 134 #[ptr bb, ptr bm] .returning w fun e u' w' => e = .returned (.tuple #[]) ∧ u' = .returning ∧ w' = w.drew.setCell ⟨p, 13, none⟩ before := by
  have p13 := h_cell hp 13 rfl
  have z13 := h_fz hp 13
  refine callsD_of_wpS Tryz.func134 rfl fun c₀ cs hu => ?_
  apply wpS_seq
  refine wpS_of_wp ?_
  simp only [Tryz.ntmps134, List.size_toArray, List.length_cons, List.length_nil, Nat.reduceAdd, Nat.reduceSub, Array.replicate_succ, Array.replicate_zero, List.push_toArray, List.append_toArray, List.nil_append, List.cons_append]
  have q1 := any_nnil
  clear hp
  rcases hb with rfl | ⟨ad, rfl⟩
  all_goals
    go_region
    simp only [Exit.thenS]
    apply wpS_seq
    apply wpS_region
    simp [wpOpsS, go_sem, recoverD, hu, q1]
    simp [go_sem, Exit.thenS]
    refine wpS_cond (t := false) (by simp [Act.eval]) ?_
    simp only [Bool.false_eq_true, if_false]
    refine wpS_of_wp (wp_skip ?_)
    exact ⟨rfl, _, rfl, .tuple #[], by simp [results, Tryz.results134], rfl, hu, rfl⟩

/-- What is left of goOn behind main's end. -/
theorem goOn_left {w u : World} {p kn tb kin : Nat} {args env box : Value} {cwd : ByteArray} {l1 l2 l3 held peak : Int} {isChild : Bool} {m : Nat} {S : List Nat} {R : World → Prop}
    (hS : ∀ b ∈ S, b < w.heap.size ∨ w.heap.size + 1 < b) (hp : PrAt u p kn tb args env cwd l1 l2 l3 held peak box kin isChild (ptr m)) (m0 : u.cell? ⟨m, 0, none⟩ = some (ptr p)) (hT : Turn S (GoW w p m (.pointer none)).drew u)
    (hR : R (u.drew.setCell ⟨p, 13, none⟩ (.pointer none))) (a' : Act) (ha : a'.defers = goD w) :
    bodyPostD Tryz.prog Tryz.f111 (fun e w' => e = .returned (.tuple #[]) ∧ R w') .normal a' u := by
  have b1 : u.cell? ⟨w.heap.size + 1, 0, none⟩ = some (.pointer none) := hT.cell (goW_box w p m (.pointer none)).1 (fun h => by have h2 : w.heap.size + 1 < w.heap.size ∨ w.heap.size + 1 < w.heap.size + 1 := hS _ h; omega)
  have b2 : u.cell? ⟨w.heap.size, 0, none⟩ = some (ptr m) := hT.cell (goW_box w p m (.pointer none)).2 (fun h => by have h2 : w.heap.size < w.heap.size ∨ w.heap.size + 1 < w.heap.size := hS _ h; omega)
  show Leaves _ _ a'.tmps _ a'.defers _ u
  rw [ha]
  refine leaves_cons (f := 134) (args := #[ptr (w.heap.size + 1), ptr w.heap.size]) (by simp) (by simp [go_sem]) ?_
  refine (catch_idle b1 b2 hp m0 (.inl rfl)).mono ?_
  rintro e u' w'' ⟨rfl, rfl, rfl⟩
  simp [Leaves, settle, results, Tryz.results111, go_sem]
  exact hR

/-- The process ahead of its last going on: as PB, but that nobody runs. -/
structure PR (G : Gh) (w : World) (told : Int) (k : KC) (held peak steps : Int) (rv v1 v2 : Value) : Prop where
  pr : PrAt w G.p G.kn G.tb G.args G.env G.cwd G.l1 G.l2 G.l3 held peak G.box G.kin G.isChild (.pointer none)
  mc : McAt w G.m G.p G.main (.slice (some ⟨G.pg, 0, none⟩) 1 G.pc) told .nilFunc true steps false 0
  past : w.ownsRow 0 186 1 (.slice (some ⟨G.pg, 0, none⟩) 1 G.pc) 1 [ptr G.an]
  an : AnAt w G.an G.ans.num G.ansv G.ans.err
  anb : ByAt w G.ansv G.ans.bytes
  anl : G.ans.bytes.length ≤ 1048576
  abk : ∀ b off n c, G.ansv = .slice (some ⟨b, off, none⟩) n c → b = G.ab
  act : ∃ ka, KI G w ka rv v1 v2 ∧ execS G.faults k G.first = (G.ans, ka)
  base : G.base ≤ w.heap.size
  stat : ∀ b ∈ stats G, b < G.base
  nab : v1.ownBlock ≠ some G.ab ∧ v2.ownBlock ≠ some G.ab
  fm : G.fb ≠ G.m ∧ G.rb ≠ G.m ∧ G.fb ≠ G.p ∧ G.rb ≠ G.p ∧ G.ab ≠ G.m ∧ G.ab ≠ G.p ∧ G.ab ≠ G.kn ∧ G.ab ≠ G.so ∧ G.ab ≠ G.s1 ∧ G.ab ≠ G.s2
theorem PR.goes {G : Gh} {w : World} {told : Int} {k : KC} {held peak steps : Int} {rv v1 v2 : Value} (h : PR G w told k held peak steps rv v1 v2) : PB G (GoW w G.p G.m (.pointer none)).drew true k held peak steps rv v1 v2 := by
  obtain ⟨ka, hk, he⟩ := h.act
  have hT : Turn [G.m, G.p] w (GoW w G.p G.m (.pointer none)).drew := goW_turn.drew
  have n1 : G.m ≠ G.kn := h_ne h.mc hk.kn (by decide)
  have n2 : G.m ≠ G.so := h_ne h.mc hk.so (by decide)
  have n3 : G.m ≠ G.s1 := h_ne h.mc hk.k1 (by decide)
  have n4 : G.m ≠ G.s2 := h_ne h.mc hk.k2 (by decide)
  have n5 : G.m ≠ G.tb := h_ne h.mc hk.tb (by decide)
  have p1 : G.p ≠ G.kn := h_ne h.pr hk.kn (by decide)
  have p2 : G.p ≠ G.so := h_ne h.pr hk.so (by decide)
  have p3 : G.p ≠ G.s1 := h_ne h.pr hk.k1 (by decide)
  have p4 : G.p ≠ G.s2 := h_ne h.pr hk.k2 (by decide)
  have p5 : G.p ≠ G.tb := h_ne h.pr hk.tb (by decide)
  have a1 : G.an ≠ G.m := h_ne h.an h.mc (by decide)
  have a2 : G.an ≠ G.p := h_ne h.an h.pr (by decide)
  have g1 : G.pg ≠ G.m := fun e => row_ne h.past h.mc (by decide) (by rw [← e]; rfl)
  have g2 : G.pg ≠ G.p := fun e => row_ne h.past h.pr (by decide) (by rw [← e]; rfl)
  have r1 := row_ne hk.o1 h.mc (by decide)
  have r2 := row_ne hk.o2 h.mc (by decide)
  have r3 := row_ne hk.o1 h.pr (by decide)
  have r4 := row_ne hk.o2 h.pr (by decide)
  have hfm := h.fm
  exact { pr := goW_pr h.pr h.mc, mc := goW_mc h.pr h.mc, past := own_turn h.past hT (fun g hg e => (by have e1 : G.pg = g := by simpa [Value.ownBlock] using hg
                                                                                                        simp at e; omega)), an := hT.ob h.an (by simp; exact ⟨a1, a2⟩), anb := h.anb.turn hT (fun b off n c e => (by rw [h.abk b off n c e]; simp; exact ⟨hfm.2.2.2.2.1, hfm.2.2.2.2.2.1⟩)), anl := h.anl, abk := h.abk, act := ⟨ka, hk.keep hT (fun b hb => (by
            have hb : b = G.m ∨ b = G.p := by simpa using hb
            rcases hb with rfl | rfl
            · exact ⟨n1, n2, n3, n4, n5, hfm.1.symm, hfm.2.1.symm, r1, r2⟩
            · exact ⟨p1, p2, p3, p4, p5, hfm.2.2.1.symm, hfm.2.2.2.1.symm, r3, r4⟩)), fun _ => he, fun e => (by cases e)⟩, base := Nat.le_trans h.base hT.size, stat := h.stat, nab := h.nab, fm := h.fm }

/-- The process behind its end. -/
structure Fin (G : Gh) (w : World) (k : KC) (held peak steps st : Int) (rv v1 v2 : Value) : Prop where
  pr : PrAt w G.p G.kn G.tb G.args G.env G.cwd G.l1 G.l2 G.l3 held peak G.box G.kin G.isChild (.pointer none)
  mc : McAt w G.m G.p .nilFunc (.slice none 0 0) 1 .nilFunc true steps true st
  kn : KnAt w G.kn G.tr G.fv k.used G.now G.th G.last
  fs : FS G w (tabI G 3) 0 0 0 rv v1 v2
  o1 : w.ownsRow 0 5 1 v1 k.out.length (u8s k.out)
  o2 : w.ownsRow 0 5 1 v2 k.err.length (u8s k.err)
end Go.Proofs.YtfkoehfkiommpaaGreatDoor

namespace Go.Proofs.YtfkoehfkiommpaaGreatDoor
open Go.RowKit Go.Shelf Go.Maps

/-- What a process has come to. -/
structure Sx where
  k : KC
  held : Int
  peak : Int
  steps : Int
/-- Where it lies, the world in which main began, the sinks' rows then, the first call. -/
structure Ev where
  G : Gh
  W0 : World
  (u1 u2 : Value)
  c0 : KCall
/-- What may be turned of what there was when main began. -/
def Xs (E : Ev) : Option Bool → List Nat
  | none => [E.G.m, E.G.p]
  | some _ => privL E.G E.u1 E.u2
/-- The process in its first pass. -/
structure PA (G : Gh) (w : World) : Prop where
  pr : PrAt w G.p G.kn G.tb G.args G.env G.cwd G.l1 G.l2 G.l3 0 0 G.box G.kin G.isChild (ptr G.m)
  mc : McAt w G.m G.p G.main (.slice none 0 0) 0 .nilFunc false 0 false 0
  base : G.base ≤ w.heap.size
  stat : G.p < G.base ∧ G.m < G.base
def PSt (md : Option Bool) (G : Gh) (w : World) (s : Sx) (rv v1 v2 : Value) : Prop :=
  match md with
  | none => PA G w ∧ v1 = .slice none 0 0 ∧ v2 = .slice none 0 0
  | some fresh => PB G w fresh s.k s.held s.peak (s.steps + if fresh then 1 else 0) rv v1 v2
/-- The process; M: blocks of main's own, which no call turns. -/
structure PS (E : Ev) (md : Option Bool) (w : World) (s : Sx) (M : List Nat) : Prop where
  ex : ∃ rv v1 v2, PSt md E.G w s rv v1 v2 ∧ (∀ b ∈ M, b < w.heap.size ∧ b ∉ privL E.G v1 v2) ∧ (∀ b, v1.ownBlock = some b → b < w.heap.size ∧ (E.u1.ownBlock = some b ∨ E.W0.heap.size ≤ b)) ∧ (∀ b, v2.ownBlock = some b → b < w.heap.size ∧ (E.u2.ownBlock = some b ∨ E.W0.heap.size ≤ b))
  since : Turn (Xs E md) E.W0 w
  first : md = some true → E.G.first = E.c0
  zero : md ≠ some false → s.held = 0 ∧ s.peak = 0 ∧ s.steps = 0
  nn : 0 ≤ s.held ∧ s.held ≤ 9223372036854775807 ∧ 0 ≤ s.steps
  fit : E.G.base ≤ E.W0.heap.size
  st : ∀ b ∈ [E.G.kn, E.G.so, E.G.s1, E.G.s2], b < E.W0.heap.size

/-- Main is left at its first call. -/
def Waits (md : Option Bool) (E : Ev) (M : List Nat) (e : Ending) (w w' : World) : Prop :=
  md = none ∧ e = .panicked waitsP ∧ (∃ nx, (∃ f y z, nx = .func f y z) ∧ Wt E.G w' E.c0 nx ∧ McAt w' E.G.m E.G.p E.G.main (.slice none 0 0) 0 nx false 0 false 0) ∧ PrAt w' E.G.p E.G.kn E.G.tb E.G.args E.G.env E.G.cwd E.G.l1 E.G.l2 E.G.l3 0 0 E.G.box E.G.kin E.G.isChild (ptr E.G.m) ∧ Turn [E.G.m, E.G.p] E.W0 w' ∧ ∃ S, Turn S w w' ∧ ∀ b ∈ M, b ∉ S
/-- Nothing of M is turned. -/
def Kept (M : List Nat) (w w' : World) : Prop := ∃ S, Turn S w w' ∧ ∀ b ∈ M, b ∉ S

section
variable {E : Ev} {md : Option Bool} {w w' : World} {s : Sx} {M : List Nat}
theorem Kept.refl (M : List Nat) (w : World) : Kept M w w := ⟨[], Turn.refl _ _, by simp⟩
theorem Kept.trans {a b c : World} (h : Kept M a b) (k : Kept M b c) : Kept M a c := by
  obtain ⟨S, hT, hS⟩ := h
  obtain ⟨S', hT', hS'⟩ := k
  exact ⟨S ++ S', (hT.mono (fun _ h => List.mem_append_left _ h)).trans (hT'.mono (fun _ h => List.mem_append_right _ h)), fun b hb e => (List.mem_append.1 e).elim (hS b hb) (hS' b hb)⟩
theorem Kept.less {N : List Nat} {a b : World} (h : Kept M a b) (hN : ∀ x ∈ N, x ∈ M) : Kept N a b := by
  obtain ⟨S, hT, hS⟩ := h
  exact ⟨S, hT, fun x hx => hS x (hN x hx)⟩
theorem Kept.below {a b : World} (h : Below a.heap.size a b) : Kept M a b := ⟨[], Turn.below h, by simp⟩
theorem Kept.cell {a : Addr} {v : Value} (h : Kept M w w') (hc : w.cell? a = some v) (hb : a.block ∈ M) : w'.cell? a = some v := by
  obtain ⟨S, hT, hS⟩ := h
  exact hT.cell hc (hS _ hb)
theorem Kept.ob {b : Nat} {o : Obj} (h : Kept M w w') (ho : w.heap[b]? = some o) (hb : b ∈ M) : w'.heap[b]? = some o := by
  obtain ⟨S, hT, hS⟩ := h
  exact hT.ob ho (hS _ hb)
theorem Kept.size {a b : World} (h : Kept M a b) : a.heap.size ≤ b.heap.size := h.choose_spec.1.size
theorem Kept.row {B T n : Nat} {v : Value} {xs : List Value} (h : Kept M w w') (ho : w.ownsRow B T 1 v n xs) (hb : ∀ g, v.ownBlock = some g → g ∈ M) : w'.ownsRow B T 1 v n xs := by
  obtain ⟨S, hT, hS⟩ := h
  exact own_turn ho hT (fun g hg => hS g (hb g hg))
theorem Kept.by {v : Value} {d : List UInt8} (h : Kept M w w') (ho : ByAt w v d) (hb : ∀ b off n c, v = .slice (some ⟨b, off, none⟩) n c → b ∈ M) : ByAt w' v d := by
  obtain ⟨S, hT, hS⟩ := h
  exact ho.turn hT (fun b off n c e => hS b (hb b off n c e))

theorem PSt.keep {rv v1 v2 : Value} (h : PSt md E.G w s rv v1 v2) {S : List Nat} (hT : Turn S w w') (hS : ∀ b ∈ S, E.G.base ≤ b ∧ v1.ownBlock ≠ some b ∧ v2.ownBlock ≠ some b) : PSt md E.G w' s rv v1 v2 := by
  cases md with
  | none =>
    obtain ⟨h, e1, e2⟩ := h
    have hn : ∀ x, x < E.G.base → x ∉ S := fun x hx hm => by have := (hS x hm).1; omega
    exact ⟨⟨hT.ob h.pr (hn _ h.stat.1), hT.ob h.mc (hn _ h.stat.2), Nat.le_trans h.base hT.size, h.stat⟩, e1, e2⟩
  | some f => exact PB.keep h hT hS
theorem PSt.base {rv v1 v2 : Value} (h : PSt md E.G w s rv v1 v2) : E.G.base ≤ w.heap.size := by
  cases md with
  | none => exact h.1.base
  | some f => exact PB.base h
theorem PSt.stat {rv v1 v2 : Value} (h : PSt md E.G w s rv v1 v2) : E.G.p < E.G.base ∧ E.G.m < E.G.base := by
  cases md with
  | none => exact h.1.stat
  | some f => exact ⟨(PB.lts h).1, (PB.lts h).2.1⟩
/-- Main turns blocks of its own, and lays new ones, which are its own then. -/
theorem PS.own (h : PS E md w s M) {S N : List Nat} (hT : Turn S w w') (hS : ∀ b ∈ S, E.W0.heap.size ≤ b ∧ (b ∈ M ∨ w.heap.size ≤ b)) (hN : ∀ b ∈ N, b ∈ M ∨ w.heap.size ≤ b ∧ b < w'.heap.size) : PS E md w' s N := by
  obtain ⟨rv, v1, v2, hp, h1, h2, h3⟩ := h.ex
  have hb := hp.base
  have hf := h.fit
  have hpm := hp.stat
  have hsz := h.since.size
  have hst := h.st
  simp only [List.forall_mem_cons] at hst
  obtain ⟨q1, q2, q3, q4, _⟩ := hst
  have hS' : ∀ b ∈ S, E.G.base ≤ b ∧ v1.ownBlock ≠ some b ∧ v2.ownBlock ≠ some b := fun b hb' => by
    obtain ⟨hw, h | h⟩ := hS b hb'
    · have := (h1 b h).2
      rw [mem_privL] at this
      exact ⟨by omega, fun e => this (.inr (.inr (.inr (.inr (.inr (.inr (.inl e))))))), fun e => this (.inr (.inr (.inr (.inr (.inr (.inr (.inr e)))))))⟩
    · exact ⟨by omega, fun e => by have := (h2 b e).1; omega, fun e => by have := (h3 b e).1; omega⟩
  refine ⟨⟨rv, v1, v2, hp.keep hT hS', fun b hb' => ?_, fun b e => ⟨Nat.lt_of_lt_of_le (h2 b e).1 hT.size, (h2 b e).2⟩, fun b e => ⟨Nat.lt_of_lt_of_le (h3 b e).1 hT.size, (h3 b e).2⟩⟩, ?_, h.first, h.zero, h.nn, h.fit, h.st⟩
  · rcases hN b hb' with h | ⟨h, h'⟩
    · exact ⟨Nat.lt_of_lt_of_le (h1 b h).1 hT.size, (h1 b h).2⟩
    · refine ⟨h', fun e => ?_⟩
      rw [mem_privL] at e
      rcases e with e | e | e | e | e | e | e | e
      · omega
      · omega
      · omega
      · omega
      · omega
      · omega
      · have := (h2 b e).1; omega
      · have := (h3 b e).1; omega
  · have hsn := h.since
    refine ⟨hT.os.trans hsn.os, hT.tape.trans hsn.tape, hT.output.trans hsn.output, Nat.le_trans hsn.size hT.size, fun b hb' hx => ?_⟩
    exact (hT.block b (Nat.lt_of_lt_of_le hb' hsn.size) (fun e => by have := (hS b e).1; omega)).trans (hsn.block b hb' hx)
end
end Go.Proofs.YtfkoehfkiommpaaGreatDoor
