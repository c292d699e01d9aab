/- A table is freed: its things are lost. -/
import Derived.Test.YteimilnecahifaaGreatDoorMFds
import Derived.RegionDies
import Derived.Test.YteimilnecahifaaGreatDoorYMap
namespace Go.Proofs.YteimilnecahifaaGreatDoor
open Go.RowKit Go.Shelf Go.Maps

theorem m_lose_sk (e : Nat) (w : World) : (method 487 139 (ptr e) "toolchest/kern.lose").run Tryz.prog w = .ok (309, ptr e) w := by kernel_rfl
theorem m_gain_sk (e : Nat) (w : World) : (method 487 139 (ptr e) "toolchest/kern.gain").run Tryz.prog w = .ok (308, ptr e) w := by kernel_rfl

set_option maxRecDepth 100000 in
set_option maxHeartbeats 2000000 in
theorem leave_one_so (k e : Nat) (w : World) (hc : w.cell? ⟨e, 0, none⟩ = some (.int .i64 1)) (hz : w.frozen? ⟨e, 0, none⟩ = false) :
    Calls Tryz.prog 101 #[ptr k, iSo e] w fun r w' => (∃ v, r = .returned v) ∧ w' = w.setCell ⟨e, 0, none⟩ (.int .i64 0) := by
  have hn := nil_eq
  have hl := lose_c e 1 w hc hz (by decide) (by decide)
  have e1 : ((1 : Int) - 1 == 0) = true := by decide
  rw [e1] at hl
  have hm := m_lose_so
  have ht := ta_so_fi
  go_enter Tryz.func101, Tryz.ntmps101
  go_wp2_with (go_at_call 309; refine hl.mono ?_; rintro r w2 ⟨rfl, hw2⟩; rw [hw2]; clear hw2)
  go_end0
  exact ⟨⟨_, rfl⟩, rfl⟩
set_option maxRecDepth 100000 in
set_option maxHeartbeats 2000000 in
theorem leave_one_sk (k e : Nat) (w : World) (hc : w.cell? ⟨e, 0, none⟩ = some (.int .i64 1)) (hz : w.frozen? ⟨e, 0, none⟩ = false) :
    Calls Tryz.prog 101 #[ptr k, iSk e] w fun r w' => (∃ v, r = .returned v) ∧ w' = w.setCell ⟨e, 0, none⟩ (.int .i64 0) := by
  have hn := nil_eq
  have hl := lose_c e 1 w hc hz (by decide) (by decide)
  have e1 : ((1 : Int) - 1 == 0) = true := by decide
  rw [e1] at hl
  have hm := m_lose_sk
  have ht := ta_sk_fi
  go_enter Tryz.func101, Tryz.ntmps101
  go_wp2_with (go_at_call 309; refine hl.mono ?_; rintro r w2 ⟨rfl, hw2⟩; rw [hw2]; clear hw2)
  go_end0
  exact ⟨⟨_, rfl⟩, rfl⟩

set_option maxRecDepth 100000 in
set_option maxHeartbeats 2000000 in
theorem unset_any (t k fd : Nat) (hs : Array Value) (T e : Nat) (Q : World → Prop) (w : World) (hT : TbAt w t k hs) (hfd : fd < 16) (hx : hs[fd]? = some (.iface T (ptr e)))
    (hl : Calls Tryz.prog 101 #[ptr k, .iface T (ptr e)] (w.setCell ⟨t, 1 + fd, none⟩ .nilIface) fun r w' => (∃ v, r = .returned v) ∧ Q w') :
    Calls Tryz.prog 172 #[ptr t, .int .i64 fd] w fun r w' => (∃ v, r = .returned v) ∧ Q w' := by
  have hT2 := tb_set hT fd .nilIface
  have q0 := tb_kern hT2
  have q1 := tb_cell hT fd hx
  have z1 := h_fz hT (1 + fd)
  have q3 : 0 ≤ (fd : Int) ∧ (fd : Int) < 16 := by omega
  clear hT hT2
  go_enter Tryz.func172, Tryz.ntmps172
  go_wp2_with (go_at_call 101; refine hl.mono ?_; rintro r w2 ⟨⟨v, rfl⟩, hQ⟩)
  go_end0
  exact ⟨⟨_, rfl⟩, hQ⟩

/-- So many descriptors are freed. -/
structure FS (G : Gh) (w : World) (hs : Array Value) (c0 c1 c2 : Int) (rv v1 v2 : Value) : Prop where
  tb : TbAt w G.tb G.kn hs
  so : SoAt w G.so c0 rv
  k1 : SkAt w G.s1 c1 v1
  k2 : SkAt w G.s2 c2 v2
theorem fds3 (G : Gh) : fdsTo (has3 G) 16 = [0, 1, 2] := by kernel_rfl
theorem th3 (G : Gh) : ∀ i, i < 16 → IsTh ((has3 G)[i]?.getD .nilIface) := fun i hi => by
  have h : i = 0 ∨ i = 1 ∨ i = 2 ∨ i = 3 ∨ i = 4 ∨ i = 5 ∨ i = 6 ∨ i = 7 ∨ i = 8 ∨ i = 9 ∨ i = 10 ∨ i = 11 ∨ i = 12 ∨ i = 13 ∨ i = 14 ∨ i = 15 := by omega
  rcases h with rfl | rfl | rfl | rfl | rfl | rfl | rfl | rfl | rfl | rfl | rfl | rfl | rfl | rfl | rfl | rfl
  · exact .inr ⟨_, _, rfl⟩
  · exact .inr ⟨_, _, rfl⟩
  · exact .inr ⟨_, _, rfl⟩
  all_goals exact .inl rfl
section
variable {G : Gh} {w : World} {rv v1 v2 : Value}
theorem free_0 (h : FS G w #[iSo G.so, iSk G.s1, iSk G.s2, .nilIface, .nilIface, .nilIface, .nilIface, .nilIface, .nilIface, .nilIface, .nilIface, .nilIface, .nilIface, .nilIface, .nilIface, .nilIface] 1 1 1 rv v1 v2) : Calls Tryz.prog 172 #[ptr G.tb, .int .i64 (0 : Nat)] w fun r w' => (∃ v, r = .returned v) ∧ FS G w' #[.nilIface, iSk G.s1, iSk G.s2, .nilIface, .nilIface, .nilIface, .nilIface, .nilIface, .nilIface, .nilIface, .nilIface, .nilIface, .nilIface, .nilIface, .nilIface, .nilIface] 0 1 1 rv v1 v2 ∧ Turn [G.tb, G.so, G.s1, G.s2] w w' := by
  have n1 := h_ne h.tb h.so (by decide)
  have n2 := h_ne h.tb h.k1 (by decide)
  have n3 := h_ne h.tb h.k2 (by decide)
  have n4 := h_ne h.so h.k1 (by decide)
  have n5 := h_ne h.so h.k2 (by decide)
  have ht := tb_set h.tb 0 .nilIface
  have hs : SoAt (w.setCell ⟨G.tb, 1 + 0, none⟩ .nilIface) G.so 1 rv := s_other h.so n1.symm
  refine unset_any G.tb G.kn 0 _ 133 G.so _ w h.tb (by decide) rfl ((leave_one_so G.kn G.so _ (h_cell hs 0 rfl) (h_fz hs 0)).mono ?_)
  rintro r w' ⟨hr, rfl⟩
  refine ⟨hr, ⟨s_other ht n1, by simpa using h_set hs 0 (.int .i64 0), s_other (s_other h.k1 n2.symm) n4.symm, s_other (s_other h.k2 n3.symm) n5.symm⟩, (Turn.set w G.tb _ _ (by simp)).trans (Turn.set _ G.so 0 _ (by simp))⟩
theorem free_1 (h : FS G w #[.nilIface, iSk G.s1, iSk G.s2, .nilIface, .nilIface, .nilIface, .nilIface, .nilIface, .nilIface, .nilIface, .nilIface, .nilIface, .nilIface, .nilIface, .nilIface, .nilIface] 0 1 1 rv v1 v2) (hne : G.s1 ≠ G.s2) : Calls Tryz.prog 172 #[ptr G.tb, .int .i64 (1 : Nat)] w fun r w' => (∃ v, r = .returned v) ∧ FS G w' #[.nilIface, .nilIface, iSk G.s2, .nilIface, .nilIface, .nilIface, .nilIface, .nilIface, .nilIface, .nilIface, .nilIface, .nilIface, .nilIface, .nilIface, .nilIface, .nilIface] 0 0 1 rv v1 v2 ∧ Turn [G.tb, G.so, G.s1, G.s2] w w' := by
  have n1 := h_ne h.tb h.so (by decide)
  have n2 := h_ne h.tb h.k1 (by decide)
  have n3 := h_ne h.tb h.k2 (by decide)
  have n4 := h_ne h.so h.k1 (by decide)
  have ht := tb_set h.tb 1 .nilIface
  have hs : SkAt (w.setCell ⟨G.tb, 1 + 1, none⟩ .nilIface) G.s1 1 v1 := s_other h.k1 n2.symm
  refine unset_any G.tb G.kn 1 _ 139 G.s1 _ w h.tb (by decide) rfl ((leave_one_sk G.kn G.s1 _ (h_cell hs 0 rfl) (h_fz hs 0)).mono ?_)
  rintro r w' ⟨hr, rfl⟩
  refine ⟨hr, ⟨s_other ht n2, s_other (s_other h.so n1.symm) n4, by simpa using h_set hs 0 (.int .i64 0), s_other (s_other h.k2 n3.symm) hne.symm⟩, (Turn.set w G.tb _ _ (by simp)).trans (Turn.set _ G.s1 0 _ (by simp))⟩
theorem free_2 (h : FS G w #[.nilIface, .nilIface, iSk G.s2, .nilIface, .nilIface, .nilIface, .nilIface, .nilIface, .nilIface, .nilIface, .nilIface, .nilIface, .nilIface, .nilIface, .nilIface, .nilIface] 0 0 1 rv v1 v2) (hne : G.s1 ≠ G.s2) : Calls Tryz.prog 172 #[ptr G.tb, .int .i64 (2 : Nat)] w fun r w' => (∃ v, r = .returned v) ∧ FS G w' #[.nilIface, .nilIface, .nilIface, .nilIface, .nilIface, .nilIface, .nilIface, .nilIface, .nilIface, .nilIface, .nilIface, .nilIface, .nilIface, .nilIface, .nilIface, .nilIface] 0 0 0 rv v1 v2 ∧ Turn [G.tb, G.so, G.s1, G.s2] w w' := by
  have n1 := h_ne h.tb h.so (by decide)
  have n2 := h_ne h.tb h.k1 (by decide)
  have n3 := h_ne h.tb h.k2 (by decide)
  have n5 := h_ne h.so h.k2 (by decide)
  have ht := tb_set h.tb 2 .nilIface
  have hs : SkAt (w.setCell ⟨G.tb, 1 + 2, none⟩ .nilIface) G.s2 1 v2 := s_other h.k2 n3.symm
  refine unset_any G.tb G.kn 2 _ 139 G.s2 _ w h.tb (by decide) rfl ((leave_one_sk G.kn G.s2 _ (h_cell hs 0 rfl) (h_fz hs 0)).mono ?_)
  rintro r w' ⟨hr, rfl⟩
  refine ⟨hr, ⟨s_other ht n3, s_other (s_other h.so n1.symm) n5, s_other (s_other h.k1 n2.symm) hne, by simpa using h_set hs 0 (.int .i64 0)⟩, (Turn.set w G.tb _ _ (by simp)).trans (Turn.set _ G.s2 0 _ (by simp))⟩
theorem FS.turn {hs : Array Value} {c0 c1 c2 : Int} (h : FS G w hs c0 c1 c2 rv v1 v2) {w' : World} (hB : Below w.heap.size w w') : FS G w' hs c0 c1 c2 rv v1 v2 :=
  ⟨(Turn.below (S := []) hB).ob h.tb (by simp), (Turn.below (S := []) hB).ob h.so (by simp), (Turn.below (S := []) hB).ob h.k1 (by simp), (Turn.below (S := []) hB).ob h.k2 (by simp)⟩

/-- The table where so many are freed. -/
def tabI (G : Gh) (n : Nat) : Array Value := match n with | 0 => #[iSo G.so, iSk G.s1, iSk G.s2, .nilIface, .nilIface, .nilIface, .nilIface, .nilIface, .nilIface, .nilIface, .nilIface, .nilIface, .nilIface, .nilIface, .nilIface, .nilIface] | 1 => #[.nilIface, iSk G.s1, iSk G.s2, .nilIface, .nilIface, .nilIface, .nilIface, .nilIface, .nilIface, .nilIface, .nilIface, .nilIface, .nilIface, .nilIface, .nilIface, .nilIface] | 2 => #[.nilIface, .nilIface, iSk G.s2, .nilIface, .nilIface, .nilIface, .nilIface, .nilIface, .nilIface, .nilIface, .nilIface, .nilIface, .nilIface, .nilIface, .nilIface, .nilIface] | _ => #[.nilIface, .nilIface, .nilIface, .nilIface, .nilIface, .nilIface, .nilIface, .nilIface, .nilIface, .nilIface, .nilIface, .nilIface, .nilIface, .nilIface, .nilIface, .nilIface]
theorem row3 {w : World} {base : Nat} {v : Value} (h : w.ownsRow base 3 1 v ([0, 1, 2] : List Nat).length (ints [0, 1, 2])) : ∃ g cap, v = .slice (some ⟨g, 0, none⟩) 3 cap ∧ base ≤ g ∧ 3 ≤ cap ∧ w.cell? ⟨g, 0, none⟩ = some (.int .i64 0) ∧ w.cell? ⟨g, 1, none⟩ = some (.int .i64 1) ∧ w.cell? ⟨g, 2, none⟩ = some (.int .i64 2) := by
  rcases h.2 with ⟨_, h0⟩ | ⟨g, cap, cur, rfl, hb, hg, hle, _, _, ht⟩
  · cases h0
  · have hc : ∀ i, i < 3 → w.cell? ⟨g, i, none⟩ = (ints [0, 1, 2])[i]? := fun i hi => by
      rw [← ht, List.getElem?_take, if_pos (by simpa using hi)]
      simp [World.cell?, hg]
    exact ⟨g, cap, rfl, hb, hle, hc 0 (by decide), hc 1 (by decide), hc 2 (by decide)⟩
set_option maxRecDepth 100000 in
set_option maxHeartbeats 4000000 in
theorem free_fs (h : FS G w (has3 G) 1 1 1 rv v1 v2) (hne : G.s1 ≠ G.s2) :
    Calls Tryz.prog 136 #[ptr G.tb] w fun r w' => (∃ v, r = .returned v) ∧ FS G w' #[.nilIface, .nilIface, .nilIface, .nilIface, .nilIface, .nilIface, .nilIface, .nilIface, .nilIface, .nilIface, .nilIface, .nilIface, .nilIface, .nilIface, .nilIface, .nilIface] 0 0 0 rv v1 v2 ∧ Turn [G.tb, G.so, G.s1, G.s2] w w' := by
  have hf := fds_g G.tb G.kn _ _ _ _ _ _ _ _ _ _ _ _ _ _ _ _ w h.tb (th3 G)
  rw [show fdsTo #[iSo G.so, iSk G.s1, iSk G.s2, .nilIface, .nilIface, .nilIface, .nilIface, .nilIface, .nilIface, .nilIface, .nilIface, .nilIface, .nilIface, .nilIface, .nilIface, .nilIface] 16 = [0, 1, 2] from fds3 G] at hf
  have HH := Lib.hid h
  have hlt : G.tb < w.heap.size ∧ G.so < w.heap.size ∧ G.s1 < w.heap.size ∧ G.s2 < w.heap.size := ⟨h_lt h.tb, h_lt h.so, h_lt h.k1, h_lt h.k2⟩
  clear h
  go_enter Tryz.func136, Tryz.ntmps136
  go_wp2_with (go_at_call 171; refine hf.mono ?_; rintro e w1 ⟨v, rfl, ho, hB⟩; obtain ⟨g, cap, rfl, hge, hcap, d0, d1, d2⟩ := row3 ho)
  have HF : Hid (FS G w1 (has3 G) 1 1 1 rv v1 v2) := HH.out.turn hB
  have HT : Hid (Turn [G.tb, G.so, G.s1, G.s2] w w1) := Turn.below hB
  clear HH hf ho hB
  go_loopw [7] (fun i wr => ∃ n : Nat, i = .int .i64 n ∧ n ≤ 3 ∧ Hid (FS G wr (tabI G n) (if 0 < n then 0 else 1) (if 1 < n then 0 else 1) (if 2 < n then 0 else 1) rv v1 v2) ∧ Hid (Turn [G.tb, G.so, G.s1, G.s2] w wr) ∧ wr.cell? ⟨g, 0, none⟩ = some (.int .i64 0) ∧ wr.cell? ⟨g, 1, none⟩ = some (.int .i64 1) ∧ wr.cell? ⟨g, 2, none⟩ = some (.int .i64 2)) (fun i _ => 3 - (intOf i).toNat)
  case atStart => exact ⟨0, rfl, by decide, HF, HT, d0, d1, d2⟩
  case round =>
    obtain ⟨n, rfl, hn, HI, HU, e0, e1, e2⟩ := hrel
    clear HF HT d0 d1 d2
    have hn4 : n = 0 ∨ n = 1 ∨ n = 2 ∨ n = 3 := by omega
    rcases hn4 with rfl | rfl | rfl | rfl
    · have hu := free_0 (G := G) (show FS G wr (has3 G) 1 1 1 rv v1 v2 from HI.out)
      go_wp2_with (go_at_call 172; refine hu.mono ?_; rintro r w2 ⟨⟨v, rfl⟩, hF2, hT2⟩)
      exact ⟨⟨1, rfl, by decide, hF2, HU.out.trans hT2, hT2.cell e0 (by simp; omega), hT2.cell e1 (by simp; omega), hT2.cell e2 (by simp; omega)⟩, by decide⟩
    · have hu := free_1 (G := G) (show FS G wr (tabI G 1) 0 1 1 rv v1 v2 from HI.out) hne
      go_wp2_with (go_at_call 172; refine hu.mono ?_; rintro r w2 ⟨⟨v, rfl⟩, hF2, hT2⟩)
      exact ⟨⟨2, rfl, by decide, hF2, HU.out.trans hT2, hT2.cell e0 (by simp; omega), hT2.cell e1 (by simp; omega), hT2.cell e2 (by simp; omega)⟩, by decide⟩
    · have hu := free_2 (G := G) (show FS G wr (tabI G 2) 0 0 1 rv v1 v2 from HI.out) hne
      go_wp2_with (go_at_call 172; refine hu.mono ?_; rintro r w2 ⟨⟨v, rfl⟩, hF2, hT2⟩)
      exact ⟨⟨3, rfl, by decide, hF2, HU.out.trans hT2, hT2.cell e0 (by simp; omega), hT2.cell e1 (by simp; omega), hT2.cell e2 (by simp; omega)⟩, by decide⟩
    · go_wp2
      go_end0
      exact ⟨⟨_, rfl⟩, HI.out, HU.out⟩
end
end Go.Proofs.YteimilnecahifaaGreatDoor

namespace Go.Proofs.YteimilnecahifaaGreatDoor
open Go.RowKit Go.Maps

/-- The world in which main is called. -/
abbrev GoW (w : World) (p m : Nat) (before : Value) : World := ((((w.setCell ⟨p, 13, none⟩ (ptr m)).setCell ⟨m, 3, none⟩ (.int .i64 0)).alloc (.cells #[ptr m] 86)).alloc (.cells #[before] 86)).drew
section
variable {w : World} {p kn tb kin : Nat} {args env box : Value} {cwd : ByteArray} {l1 l2 l3 held peak : Int} {isChild : Bool} {m : Nat} {main past next before : Value} {told steps status : Int} {once done : Bool}
theorem goW_turn : Turn [m, p] w (GoW w p m before) :=
  ((((Turn.set w p 13 _ (by simp)).trans (Turn.set _ m 3 _ (by simp))).trans (Turn.alloc _ _)).trans (Turn.alloc _ _)).drew
theorem goW_pr (hp : PrAt w p kn tb args env cwd l1 l2 l3 held peak box kin isChild before) (h : McAt w m p main past told next once steps done status) : PrAt (GoW w p m before) p kn tb args env cwd l1 l2 l3 held peak box kin isChild (ptr m) := by
  have hne : p ≠ m := h_ne hp h (by decide)
  have h1 : PrAt (w.setCell ⟨p, 13, none⟩ (ptr m)) p kn tb args env cwd l1 l2 l3 held peak box kin isChild (ptr m) := by have := h_set hp 13 (ptr m); simpa using this
  have h2 := s_other (i := 3) (v := .int .i64 0) h1 hne
  exact ((Turn.alloc (S := []) _ _).trans (Turn.alloc (S := []) _ _)).drew.ob h2 (by simp)
theorem goW_mc (hp : PrAt w p kn tb args env cwd l1 l2 l3 held peak box kin isChild before) (h : McAt w m p main past told next once steps done status) : McAt (GoW w p m before) m p main past 0 next once steps done status := by
  have hne : m ≠ p := h_ne h hp (by decide)
  have h1 : McAt (w.setCell ⟨p, 13, none⟩ (ptr m)) m p main past told next once steps done status := s_other h hne
  have h2 : McAt ((w.setCell ⟨p, 13, none⟩ (ptr m)).setCell ⟨m, 3, none⟩ (.int .i64 0)) m p main past 0 next once steps done status := by have := h_set h1 3 (.int .i64 0); simpa using this
  exact ((Turn.alloc (S := []) _ _).trans (Turn.alloc (S := []) _ _)).drew.ob h2 (by simp)
end

/-- Q, told of a panic by the frame's deferred calls alone: what a region that draws its order wants in a function that defers. -/
def AtPanic (D0 : List Deferred) (Q : Exit → Act → World → Prop) : Exit → Act → World → Prop
  | .panic c, a, w => a.defers = D0 ∧ ∀ a' : Act, a'.defers = D0 → Q (.panic c) a' w
  | e, a, w => Q e a w
theorem AtPanic.imp {D0 : List Deferred} {Q : Exit → Act → World → Prop} : ∀ (e : Exit) (a : Act) (w : World), AtPanic D0 Q e a w → Q e a w := fun e a w h => by
  cases e with
  | panic c => exact h.2 a h.1
  | _ => exact h

theorem goW_box (w : World) (p m : Nat) (b : Value) : (GoW w p m b).cell? ⟨w.heap.size + 1, 0, none⟩ = some b ∧ (GoW w p m b).cell? ⟨w.heap.size, 0, none⟩ = some (ptr m) := by
  have e1 : ((w.setCell ⟨p, 13, none⟩ (ptr m)).setCell ⟨m, 3, none⟩ (.int .i64 0)).heap.size = w.heap.size := by simp [World.setCell]
  unfold GoW
  generalize (w.setCell ⟨p, 13, none⟩ (ptr m)).setCell ⟨m, 3, none⟩ (.int .i64 0) = X at e1
  have a1 := World.cell?_alloc_new X #[ptr m] 86 0
  have a2 := World.cell?_alloc_new (X.alloc (.cells #[ptr m] 86)) #[b] 86 0
  have e2 : (X.alloc (.cells #[ptr m] 86)).heap.size = w.heap.size + 1 := by simp [e1]
  rw [e1] at a1
  rw [e2] at a2
  exact ⟨a2, al_cell _ a1⟩
/-- The calls that goOn defers. -/
abbrev goD (w : World) : List Deferred := [{ target := Target.fn (Fn.func 104) #[ptr (w.heap.size + 1), ptr w.heap.size], args := #[] }]
end Go.Proofs.YteimilnecahifaaGreatDoor

namespace Go.Proofs.YteimilnecahifaaGreatDoor
open Go.RowKit Go.Maps

set_option maxHeartbeats 2000000 in
set_option maxRecDepth 100000 in
/-- The next answer is told again. -/
theorem retold_some {w : World} {m pr g n c t an : Nat} {main next : Value} {steps status : Int} {once done : Bool} (h : McAt w m pr main (.slice (some ⟨g, 0, none⟩) n c) t next once steps done status) (ht : t < n) (hn : n ≤ 1073741824) (hg : w.cell? ⟨g, t, none⟩ = some (ptr an)) (hne : g ≠ m) :
    Calls Tryz.prog 256 #[ptr m] w fun e w' => e = .returned (ptr an) ∧ McAt w' m pr main (.slice (some ⟨g, 0, none⟩) n c) (t + 1) next once steps done status ∧ Turn [m] w w' := by
  have c2 := h_cell h 2 rfl
  have c3 := h_cell h 3 rfl
  have z3 := h_fz h 3
  have hI : ¬ ((n : Int) ≤ (t : Int)) := by omega
  have HS := Lib.hid (fun k => show McAt ((w.drewN k).setCell ⟨m, 3, none⟩ (.int .i64 (t + 1))) m pr main (.slice (some ⟨g, 0, none⟩) n c) (t + 1) next once steps done status from by have := h_set (w := w.drewN k) h 3 (.int .i64 (t + 1)); simpa using this)
  clear h
  go_enter Tryz.func256, Tryz.ntmps256
  go_wp2
  go_quiet (fail)
  go_wp2
  have hV := HS.out nq
  have hTV : Turn [m] w ((w.drewN nq).setCell ⟨m, 3, none⟩ (.int .i64 (t + 1))) := ((Turn.refl [m] w).drewN nq).trans (Turn.set _ m 3 _ (by simp))
  have gV : ((w.drewN nq).setCell ⟨m, 3, none⟩ (.int .i64 (t + 1))).cell? ⟨g, t, none⟩ = some (ptr an) := hTV.cell hg (by simpa using hne)
  generalize (w.drewN nq).setCell ⟨m, 3, none⟩ (.int .i64 (t + 1)) = V at hV hTV gV ⊢
  have v2 := h_cell hV 2 rfl
  have v3 := h_cell hV 3 rfl
  have HV := Lib.hid hV
  have w1 : IntKind.i64.wrap ((t : Int) + 1 - 1) = (t : Int) := by rw [IntWalk.i64_in _ (by omega)]; omega
  have w2 : (t : Int) + 1 - 1 = (t : Int) := by omega
  have hI2 : (t : Int) < (n : Int) := by omega
  clear hV HS c2 c3 z3 hg hI
  go_quiet (fail)
  go_wp2
  go_ret
  exact ⟨rfl, HV.out, hTV.drewN _⟩
end Go.Proofs.YteimilnecahifaaGreatDoor

namespace Go.Proofs.YteimilnecahifaaGreatDoor
open Go.RowKit Go.Maps

theorem mc_eq (a : Addr) (w : World) : (binOp .eql 148 (.pointer (some a)) (.pointer none)).run Tryz.prog w = .ok (.bool false) w := by kernel_rfl
theorem an_nil (w : World) : (binOp .eql 148 (.pointer none) (.pointer none)).run Tryz.prog w = .ok (.bool true) w := by kernel_rfl

section
variable {w : World} {p kn tb kin : Nat} {args env box : Value} {cwd : ByteArray} {l1 l2 l3 held peak : Int} {isChild : Bool}
set_option maxHeartbeats 1000000 in
theorem pretold_some {m pr g n c t an : Nat} {main next : Value} {steps status : Int} {once done : Bool} (hp : PrAt w p kn tb args env cwd l1 l2 l3 held peak box kin isChild (ptr m)) (h : McAt w m pr main (.slice (some ⟨g, 0, none⟩) n c) t next once steps done status) (ht : t < n) (hn : n ≤ 1073741824) (hg : w.cell? ⟨g, t, none⟩ = some (ptr an)) (hne : g ≠ m) :
    Calls Tryz.prog 237 #[ptr p] w fun e w' => e = .returned (ptr an) ∧ McAt w' m pr main (.slice (some ⟨g, 0, none⟩) n c) (t + 1) next once steps done status ∧ Turn [m] w w' := by
  have hr := retold_some h ht hn hg hne
  have c13 := h_cell hp 13 rfl
  have q1 := mc_neq
  clear h hp hg
  go_enter Tryz.func237, Tryz.ntmps237
  go_wp2_with (go_at_call 256; refine hr.mono ?_; rintro e w' ⟨rfl, hm2, hT2⟩)
  go_ret
  exact ⟨rfl, hm2, hT2⟩
set_option maxHeartbeats 2000000 in
set_option maxRecDepth 100000 in
theorem pwrite_told {m pr g n c t an : Nat} {main next b : Value} {steps status fd num err : Int} {once done : Bool} (hp : PrAt w p kn tb args env cwd l1 l2 l3 held peak box kin isChild (ptr m)) (h : McAt w m pr main (.slice (some ⟨g, 0, none⟩) n c) t next once steps done status) (ht : t < n) (hn : n ≤ 1073741824) (hg : w.cell? ⟨g, t, none⟩ = some (ptr an)) (hne : g ≠ m) (ha : an ≠ m)
    (h0 : w.cell? ⟨an, 0, none⟩ = some (.int .i64 num)) (h9 : w.cell? ⟨an, 10, none⟩ = some (.int .i64 err)) :
    Calls Tryz.prog 218 #[ptr p, .int .i64 fd, b] w fun e w' => e = .returned (.tuple #[.int .i64 num, .int .i64 err]) ∧ McAt w' m pr main (.slice (some ⟨g, 0, none⟩) n c) (t + 1) next once steps done status ∧ Turn [m] w w' := by
  have hT0 : Turn [] w ((w.alloc (.cells #[ptr p] 76)).alloc (.cells #[.int .i64 fd] 3)) := (Turn.alloc w _).trans (Turn.alloc _ _)
  have hr := pretold_some (hT0.ob hp (by simp)) (hT0.ob h (by simp)) ht hn (hT0.cell hg (by simp)) hne
  have a0 := hT0.cell h0 (by simp)
  have a9 := hT0.cell h9 (by simp)
  have q1 := mc_eq
  clear h hp hg h0 h9
  go_enter Tryz.func218, Tryz.ntmps218
  go_wp2_with (go_at_call 237; refine hr.mono ?_; rintro e w' ⟨rfl, hm2, hT2⟩; have d0 := hT2.cell a0 (by simpa using ha); have d9 := hT2.cell a9 (by simpa using ha))
  go_quiet (fail)
  go_wp2
  go_ret2
  exact ⟨rfl, hm2, ((hT0.mono (by simp)).trans hT2).drewN _⟩

set_option maxHeartbeats 1000000 in
theorem pretold_none {m pr n c : Nat} {x : Option Addr} {main next : Value} {told steps status : Int} {once done : Bool} (hp : PrAt w p kn tb args env cwd l1 l2 l3 held peak box kin isChild (ptr m)) (h : McAt w m pr main (.slice x n c) told next once steps done status) (hn : (n : Int) ≤ told) :
    Calls Tryz.prog 237 #[ptr p] w fun e w' => e = .returned (.pointer none) ∧ ∃ k, w' = w.drewN k := by
  have hr := retold_none h hn
  have c13 := h_cell hp 13 rfl
  have q1 := mc_neq
  clear h hp
  go_enter Tryz.func237, Tryz.ntmps237
  go_wp2_with (go_at_call 256; refine hr.mono ?_; rintro e w' ⟨rfl, k, hw'⟩; rw [hw']; clear hw')
  go_ret
  exact ⟨rfl, k, rfl⟩
end
end Go.Proofs.YteimilnecahifaaGreatDoor

namespace Go.Proofs.YteimilnecahifaaGreatDoor
open Go.RowKit Go.Shelf Go.Maps

section
variable {w : World} {p kn tb kin : Nat} {args env box runs : Value} {cwd : ByteArray} {l1 l2 l3 held peak : Int} {isChild : Bool} {m : Nat} {main past next : Value} {told steps status : Int} {once : Bool}
set_option maxRecDepth 100000 in
set_option maxHeartbeats 2000000 in
theorem try_c {f : Nat} {z : Array Value} {Q : Nat → World → Prop} (h : McAt w m p main past told next once steps false status) (h0 : 0 ≤ steps) (h1 : steps < 4611686018427387904) (hcf : ∀ u : World, (callFunc f z).run Tryz.prog u = .ok (.enter f z) u)
    (hdo : ∀ u, McAt u m p main past told next once (steps + 1) false status → Turn [m] w u → Calls Tryz.prog f z u fun e u' => ∃ an err, e = .returned (ptr an) ∧ u'.cell? ⟨an, 10, none⟩ = some (.int .i64 err) ∧ err ≠ 10 ∧ err ≠ 8 ∧ McAt u' m p main past told next once (steps + 1) false status ∧ Q an u') :
    Calls Tryz.prog 74 #[ptr m, .func (.func f) #[] z] w fun e w' => ∃ an q u', e = .returned (.tuple #[ptr an, .bool true]) ∧ Q an u' ∧ McAt u' m p main past told next once (steps + 1) false status ∧ w' = u'.drewN q := by
  have c6 := h_cell h 6 rfl
  have z6 := h_fz h 6
  have hs := h_set h 6 (.int .i64 (steps + 1))
  have hcall := hdo (w.setCell ⟨m, 6, none⟩ (.int .i64 (steps + 1))) (by simpa using hs) (Turn.set w m 6 _ (by simp))
  clear h hdo hs
  go_enter Tryz.func74, Tryz.ntmps74
  go_wp2_with fail
  refine hcall.mono ?_
  rintro e u ⟨an, err, rfl, ce, he1, he2, hm2, hQ⟩
  have b1 : (err == 10) = false := by simpa using he1
  have b2 : (err == 8) = false := by simpa using he2
  have c7 := h_cell hm2 7 rfl
  have HM := Lib.hid hm2
  have HQ := Lib.hid hQ
  clear hcall c6 z6 he1 he2 hm2 hQ
  go_wp2_with fail
  go_quiet (fail)
  go_wp2
  go_ret2
  exact ⟨an, _, u, rfl, HQ.out, HM.out, rfl⟩
set_option maxRecDepth 100000 in
set_option maxHeartbeats 2000000 in
theorem ask_once {x : Option Addr} {n c : Nat} {f : Nat} {z : Array Value} {Q : Nat → World → Prop} (h : McAt w m p main (.slice x n c) told .nilFunc true steps false status) (hn : (n : Int) ≤ told) (h0 : 0 ≤ steps) (h1 : steps < 4611686018427387904) (hcf : ∀ u : World, (callFunc f z).run Tryz.prog u = .ok (.enter f z) u)
    (hdo : ∀ u, McAt u m p main (.slice x n c) told .nilFunc true (steps + 1) false status → Turn [m] w u → Calls Tryz.prog f z u fun e u' => ∃ an err, e = .returned (ptr an) ∧ u'.cell? ⟨an, 10, none⟩ = some (.int .i64 err) ∧ err ≠ 10 ∧ err ≠ 8 ∧ McAt u' m p main (.slice x n c) told .nilFunc true (steps + 1) false status ∧ Q an u') :
    Calls Tryz.prog 257 #[ptr m, .func (.func f) #[] z] w fun e w' => ∃ an q u', e = .returned (ptr an) ∧ Q an u' ∧ McAt u' m p main (.slice x n c) told .nilFunc true (steps + 1) false status ∧ w' = u'.drewN q := by
  have hr := retold_none h hn
  have hl : ∀ k, Calls Tryz.prog 105 #[ptr m] (w.drewN k) fun e w' => e = .returned (.bool false) ∧ w' = w.drewN k := fun k => isLeft_goes (w := w.drewN k) h
  have ht : ∀ k, Calls Tryz.prog 74 #[ptr m, .func (.func f) #[] z] (w.drewN k) fun e w' => ∃ an q u', e = .returned (.tuple #[ptr an, .bool true]) ∧ Q an u' ∧ McAt u' m p main (.slice x n c) told .nilFunc true (steps + 1) false status ∧ w' = u'.drewN q := fun k =>
    try_c (w := w.drewN k) h h0 h1 hcf (fun u hu hT => hdo u hu ⟨hT.os, hT.tape, hT.output, hT.size, hT.block⟩)
  have c5 := h_cell h 5 rfl
  have q1 := nilan_neq
  clear h hdo
  go_enter Tryz.func257, Tryz.ntmps257
  go_wp2_with (go_at_call 256; refine hr.mono ?_; rintro e w' ⟨rfl, k, hw'⟩; rw [hw']; clear hw')
  go_loopw [6, 7] (fun _ _ wr => wr = w.drewN k) (fun _ _ _ => 0)
  case atStart => rfl
  case round =>
    obtain rfl := hrel
    go_wp2_with (first
      | (go_at_call 105; refine (hl k).mono ?_; rintro e w' ⟨rfl, hw'⟩; rw [hw']; clear hw')
      | (go_at_call 74; refine (ht k).mono ?_; rintro e w' ⟨an, q, u', rfl, hQ, hM, hw'⟩; rw [hw']; clear hw'))
    go_ret
    exact ⟨an, q, u', rfl, hQ, hM, rfl⟩
set_option maxRecDepth 100000 in
set_option maxHeartbeats 2000000 in
theorem pask_once {x : Option Addr} {n c : Nat} {f : Nat} {z : Array Value} {Q : Nat → World → Prop} (hp : PrAt w p kn tb args env cwd l1 l2 l3 held peak box kin isChild (ptr m)) (h : McAt w m p main (.slice x n c) told .nilFunc true steps false status) (hn : (n : Int) ≤ told) (h0 : 0 ≤ steps) (h1 : steps < 4611686018427387904) (hcf : ∀ u : World, (callFunc f z).run Tryz.prog u = .ok (.enter f z) u)
    (hdo : ∀ u, McAt u m p main (.slice x n c) told .nilFunc true (steps + 1) false status → Turn [m] w u → Calls Tryz.prog f z u fun e u' => ∃ an err, e = .returned (ptr an) ∧ u'.cell? ⟨an, 10, none⟩ = some (.int .i64 err) ∧ err ≠ 10 ∧ err ≠ 8 ∧ McAt u' m p main (.slice x n c) told .nilFunc true (steps + 1) false status ∧ Q an u') :
    Calls Tryz.prog 238 #[ptr p, .func (.func f) #[] z] w fun e w' => ∃ an q u', e = .returned (ptr an) ∧ Q an u' ∧ McAt u' m p main (.slice x n c) told .nilFunc true (steps + 1) false status ∧ w' = u'.drewN q := by
  have ha := ask_once h hn h0 h1 hcf hdo
  have c13 := h_cell hp 13 rfl
  have q1 := mc_neq
  clear h hp hdo
  go_enter Tryz.func238, Tryz.ntmps238
  go_wp2_with (go_at_call 257; refine ha.mono ?_; rintro e w' ⟨an, q, u', rfl, hQ, hM, hw'⟩; rw [hw']; clear hw')
  go_ret
  exact ⟨an, q, u', rfl, hQ, hM, rfl⟩
end
/-- An answer. -/
abbrev AnAt (w : World) (a : Nat) (num : Int) (bv : Value) (err : Int) : Prop :=
  w.heap[a]? = some (.cells #[.int .i64 num, .int .i64 0, bv, .slice none 0 0, .int .i64 0, .bool false, .int .i64 0, .int .i64 0, .int .i64 0, .int .i64 0, .int .i64 err] 187)
end Go.Proofs.YteimilnecahifaaGreatDoor

namespace Go.Proofs.YteimilnecahifaaGreatDoor
open Go.RowKit Go.Shelf Go.Maps

set_option maxRecDepth 100000 in
set_option maxHeartbeats 2000000 in
/-- What a Write does with a step. -/
theorem write1_k1 {G : Gh} {w : World} {k : KC} {rv v1 v2 : Value} {a b c : Nat} (h : KI G w k rv v1 v2) (bv : Value) (bs : List UInt8) (hbv : ByAt w bv bs) (h0 : bs ≠ []) (hL : bs.length ≤ 1073741824) (hO : k.out.length ≤ 549755813888) (hbk : ∀ b off n c, bv = .slice (some ⟨b, off, none⟩) n c → b ≠ G.kn) (hp : w.cell? ⟨G.p, 1, none⟩ = some (ptr G.tb))
    (ha : w.cell? ⟨a, 0, none⟩ = some (ptr G.p)) (hb : w.cell? ⟨b, 0, none⟩ = some (.int .i64 1)) (hc : w.cell? ⟨c, 0, none⟩ = some bv) :
    Calls Tryz.prog 239 #[ptr a, ptr b, ptr c] w fun e w' => ∃ an v1', e = .returned (ptr an) ∧ AnAt w' an (writeS G.faults k false bs).1.num (.slice none 0 0) (writeS G.faults k false bs).1.err ∧ w.heap.size ≤ an ∧ KI G w' (writeS G.faults k false bs).2 rv v1' v2 ∧ (v1'.ownBlock = v1.ownBlock ∨ ∃ g, v1'.ownBlock = some g ∧ w.heap.size ≤ g) ∧ Turn (G.kn :: G.s1 :: v1.ownBlock.toList) w w' := by
  have ht := twrite_k1 (w := w.drew) (h.keep (S := []) (Turn.refl [] w).drew (by simp)) bv bs hbv h0 hL hO hbk
  obtain ⟨xb, cb, rfl⟩ := hbv.shape
  generalize writeS G.faults k false bs = A at ht ⊢
  clear h hbv
  go_enter Tryz.func239, Tryz.ntmps239
  go_wp2_with fail
  go_region_with (go_at_call 240; refine ht.mono ?_; rintro e w2 ⟨v', rfl, hK, hv, hT⟩)
  all_goals
    go_wp2
    go_ret
    have hTa : Turn [] w2 (w2.alloc _) := Turn.alloc w2 (.cells #[.int .i64 A.1.num, .int .i64 0, .slice none 0 0, .slice none 0 0, .int .i64 0, .bool false, .int .i64 0, .int .i64 0, .int .i64 0, .int .i64 0, .int .i64 A.1.err] 187)
    exact ⟨w2.heap.size, v', rfl, al_new _ _ rfl, hT.size, hK.keep hTa (by simp), hv, Turn.trans ⟨hT.os, hT.tape, hT.output, hT.size, hT.block⟩ (hTa.mono (by simp))⟩

set_option maxRecDepth 100000 in
set_option maxHeartbeats 2000000 in
/-- What a Write does with a step. -/
theorem write1_k2 {G : Gh} {w : World} {k : KC} {rv v1 v2 : Value} {a b c : Nat} (h : KI G w k rv v1 v2) (bv : Value) (bs : List UInt8) (hbv : ByAt w bv bs) (h0 : bs ≠ []) (hL : bs.length ≤ 1073741824) (hO : k.err.length ≤ 549755813888) (hbk : ∀ b off n c, bv = .slice (some ⟨b, off, none⟩) n c → b ≠ G.kn) (hp : w.cell? ⟨G.p, 1, none⟩ = some (ptr G.tb))
    (ha : w.cell? ⟨a, 0, none⟩ = some (ptr G.p)) (hb : w.cell? ⟨b, 0, none⟩ = some (.int .i64 2)) (hc : w.cell? ⟨c, 0, none⟩ = some bv) :
    Calls Tryz.prog 239 #[ptr a, ptr b, ptr c] w fun e w' => ∃ an v2', e = .returned (ptr an) ∧ AnAt w' an (writeS G.faults k true bs).1.num (.slice none 0 0) (writeS G.faults k true bs).1.err ∧ w.heap.size ≤ an ∧ KI G w' (writeS G.faults k true bs).2 rv v1 v2' ∧ (v2'.ownBlock = v2.ownBlock ∨ ∃ g, v2'.ownBlock = some g ∧ w.heap.size ≤ g) ∧ Turn (G.kn :: G.s2 :: v2.ownBlock.toList) w w' := by
  have ht := twrite_k2 (w := w.drew) (h.keep (S := []) (Turn.refl [] w).drew (by simp)) bv bs hbv h0 hL hO hbk
  obtain ⟨xb, cb, rfl⟩ := hbv.shape
  generalize writeS G.faults k true bs = A at ht ⊢
  clear h hbv
  go_enter Tryz.func239, Tryz.ntmps239
  go_wp2_with fail
  go_region_with (go_at_call 240; refine ht.mono ?_; rintro e w2 ⟨v', rfl, hK, hv, hT⟩)
  all_goals
    go_wp2
    go_ret
    have hTa : Turn [] w2 (w2.alloc _) := Turn.alloc w2 (.cells #[.int .i64 A.1.num, .int .i64 0, .slice none 0 0, .slice none 0 0, .int .i64 0, .bool false, .int .i64 0, .int .i64 0, .int .i64 0, .int .i64 0, .int .i64 A.1.err] 187)
    exact ⟨w2.heap.size, v', rfl, al_new _ _ rfl, hT.size, hK.keep hTa (by simp), hv, Turn.trans ⟨hT.os, hT.tape, hT.output, hT.size, hT.block⟩ (hTa.mono (by simp))⟩
end Go.Proofs.YteimilnecahifaaGreatDoor

namespace Go.Proofs.YteimilnecahifaaGreatDoor
open Go.RowKit Go.Shelf Go.Maps

theorem bclone_by (v : Value) (d : List UInt8) (w : World) (hl : d.length ≤ 1073741824) (h : ByAt w v d) :
    Calls Tryz.prog 71 #[v] w fun e w' => ∃ v', e = .returned v' ∧ w'.ownsRow w.heap.size 5 1 v' d.length (u8s d) ∧ Below w.heap.size w w' := by
  rcases h with ⟨rfl, rfl⟩ | ⟨b, off, cap, rfl, _, _, hc⟩
  · refine (Tryz.bytes_Clone_nil 0 0 w).mono ?_
    rintro e w' ⟨rfl, rfl⟩
    exact ⟨_, rfl, by simpa [u8s] using World.ownsRow_nil _ _ _ _, Below.refl _ _⟩
  · exact bclone_c b off d.length cap d w rfl (by omega) hc

section
variable {w : World} {p kn tb kin : Nat} {args env box : Value} {cwd : ByteArray} {l1 l2 l3 held peak : Int} {isChild : Bool} {m : Nat} {main next : Value} {steps status : Int} {once : Bool}
end
end Go.Proofs.YteimilnecahifaaGreatDoor
