/- Cut, Drop and Read of a file that has a name: what the files' statement asks of the tree. -/
import Derived.Test.YtbbmihlabllliaaGreatDoorFile
namespace Go.Proofs.YtbbmihlabllliaaGreatDoor
open Go.RowKit Go.Shelf Go.Maps

set_option maxHeartbeats 1000000 in
theorem cutf_c (t n fb N : Nat) (F : DataW Value) (ino now : Int) (x : Nd) (r nm la : Value) (w : World)
    (hT : TrAt w t r (.map (some fb)) nm la) (hF : w.ownsMap Tryz.prog 3 R fb N F) (hi : (Lit.int .i64 ino).wf = true) (hlk : look F (ik ino) = ptr n) (hn : NdAt w n x) :
    Calls Tryz.prog 145 #[.pointer (some ⟨t, 0, none⟩), .int .i64 ino, .int .i64 now] w fun e w' => (∃ v, e = .returned v) ∧ NdAt w' n { x with data := .slice none 0 0, tick := now } ∧ Turn [n] w w' := by
  have hrl := lookI hF hi
  rw [hlk] at hrl
  have t1 := hT.c1
  have e6 := hn.c6
  have z6 := hn.fz 6
  have hn2 : NdAt (w.setCell ⟨n, 6, none⟩ (.slice none 0 0)) n { x with data := .slice none 0 0 } := hn.set 6 _ (by simp [Nd.arr])
  have e2 := hn2.c2
  have z2 := hn2.fz 2
  have HN := Lib.hid hn2
  clear hT hF hn hn2
  go_enter Tryz.func145, Tryz.ntmps145
  go_wp2
  go_end0
  exact ⟨⟨_, rfl⟩, HN.out.set 2 _ (by simp [Nd.arr]), (Turn.set _ _ _ _ (by simp)).trans (Turn.set _ _ _ _ (by simp))⟩

set_option maxHeartbeats 1000000 in
theorem drop_linked (t n fb N : Nat) (F : DataW Value) (ino : Int) (x : Nd) (r nm la : Value) (w : World)
    (hT : TrAt w t r (.map (some fb)) nm la) (hF : w.ownsMap Tryz.prog 3 R fb N F) (hi : (Lit.int .i64 ino).wf = true) (hlk : look F (ik ino) = ptr n) (hn : NdAt w n x) (hd : x.dir = false) (hl : x.links ≠ 0) (h0 : 1 ≤ x.holds) (h1 : x.holds < 4611686018427387904) :
    Calls Tryz.prog 139 #[.pointer (some ⟨t, 0, none⟩), .int .i64 ino] w fun e w' => (∃ v, e = .returned v) ∧ NdAt w' n { x with holds := x.holds - 1 } ∧ Turn [n] w w' := by
  have hrl := lookI hF hi
  rw [hlk] at hrl
  have t1 := hT.c1
  have e8 := hn.c8
  have z8 := hn.fz 8
  have hn2 : NdAt (w.setCell ⟨n, 8, none⟩ (.int .i64 (x.holds - 1))) n { x with holds := x.holds - 1 } := hn.set 8 _ (by simp [Nd.arr])
  have hdr := drain_held t n { x with holds := x.holds - 1 } _ hn2 hd (.inl hl)
  have hmx : max (0 : Int) (x.holds - 1) = x.holds - 1 := by omega
  have HN := Lib.hid hn2
  clear hT hF hn hn2
  go_enter Tryz.func139, Tryz.ntmps139
  go_wp2_with (go_at_call 130; refine hdr.mono ?_; rintro e w2 ⟨⟨v, rfl⟩, hw2⟩; rw [hw2])
  go_end0
  exact ⟨⟨_, rfl⟩, HN.out, Turn.set _ _ _ _ (by simp)⟩

set_option maxRecDepth 100000 in
set_option maxHeartbeats 4000000 in
theorem read_past (t n fb N : Nat) (F : DataW Value) (ino most : Int) (x : Nd) (a : Option Addr) (L cap : Nat) (r nm la : Value) (w : World)
    (hT : TrAt w t r (.map (some fb)) nm la) (hF : w.ownsMap Tryz.prog 3 R fb N F) (hi : (Lit.int .i64 ino).wf = true) (hlk : look F (ik ino) = ptr n) (hn : NdAt w n x) (hxd : x.data = .slice a L cap) (hm : 0 < most) :
    Calls Tryz.prog 143 #[.pointer (some ⟨t, 0, none⟩), .int .i64 ino, .int .i64 L, .int .i64 most] w fun e w' => e = .returned (.slice none 0 0) ∧ w' = w := by
  have hrl := lookI hF hi
  rw [hlk] at hrl
  have t1 := hT.c1
  have d6 := hn.c6
  rw [hxd] at d6
  have b0 : ¬ ((L : Int) < 0) := by omega
  have b1 : ¬ (most ≤ 0) := by omega
  have b2 : ((L : Int) ≤ (L : Int)) := by omega
  clear hT hF hn
  go_enter Tryz.func143, Tryz.ntmps143
  go_wp2
  go_ret
  exact ⟨rfl, rfl⟩

set_option maxRecDepth 100000 in
set_option maxHeartbeats 4000000 in
theorem read_part (t n fb N : Nat) (F : DataW Value) (ino : Int) (x : Nd) (a : Option Addr) (L cap base off kk : Nat) (most : Int) (xs : List Value) (r nm la : Value) (w : World)
    (hT : TrAt w t r (.map (some fb)) nm la) (hF : w.ownsMap Tryz.prog 3 R fb N F) (hi : (Lit.int .i64 ino).wf = true) (hlk : look F (ik ino) = ptr n) (hn : NdAt w n x) (hxd : x.data = .slice a L cap) (hown : w.ownsRow base 5 1 (.slice a L cap) L xs)
    (hx1 : ∀ v ∈ xs, v.oneCell' = true) (hL : L ≤ 33554432) (ho : off < L) (hm : 0 < most) (hkk : min most ((L : Int) - (off : Int)) = (kk : Int)) :
    Calls Tryz.prog 143 #[.pointer (some ⟨t, 0, none⟩), .int .i64 ino, .int .i64 off, .int .i64 most] w fun e w' => ∃ v', e = .returned v' ∧ w'.ownsRow w.heap.size 5 1 v' kk ((xs.drop off).take kk) ∧ Below w.heap.size w w' := by
  have hrl := lookI hF hi
  rw [hlk] at hrl
  have t1 := hT.c1
  have d6 := hn.c6
  rw [hxd] at d6
  obtain ⟨g, cap', cur, hv, hbg, hg, hcap, hcm, hcs, htk⟩ := row_shape hown (by omega)
  cases hv
  have b0 : ¬ ((off : Int) < 0) := by omega
  have b1 : ¬ (most ≤ 0) := by omega
  have b2 : ¬ ((L : Int) ≤ (off : Int)) := by omega
  have hk1 : 1 ≤ kk := by omega
  have hk2 : kk ≤ L - off := by omega
  obtain ⟨i0, hi0, hz0, hz1, hz2⟩ := info_parts info5
  obtain ⟨w2, hrun, hown2, hgrow⟩ := run_make_full (P := Tryz.prog) w w.heap.size 33 5 i0 (.int .u8 0) 1 Tryz.underlying33 hi0 hz0 hz1 .i64 .i64 kk (by rw [hz2]; omega) (by unfold maxLen; omega) (Nat.le_refl _)
  obtain ⟨g2, cap2, cur2, hv2, _, hg2, hc2, hcm2, hcs2, _⟩ := row_shape hown2 (by omega)
  cases hv2
  have hB2 : Below w.heap.size w w2 := ⟨hgrow.os, hgrow.tape, hgrow.output, hgrow.size, fun k hk => hgrow.block k hk (by simp)⟩
  have hn2 := hn.below hB2 hn.lt
  have d62 := hn2.c6
  rw [hxd] at d62
  have hgl : g < w.heap.size := (Array.getElem?_eq_some_iff.1 hg).1
  have hg' : w2.heap[g]? = some (.cells cur 5 (0, 0)) := (hB2.block g hgl).trans hg
  have hxl : xs.length = L := by simpa using hown.1
  have hsrc : ∀ j v, ((xs.drop off).take kk)[j]? = some v → w2.cell? ((⟨g, off, none⟩ : Addr).add j) = some v := fun j v hv => by
    rw [Addr.add_lit]
    rw [List.getElem?_take] at hv
    split at hv
    · rw [List.getElem?_drop, ← htk, List.getElem?_take] at hv
      simp only [World.cell?, hg']
      split at hv
      · simpa using hv
      · cases hv
    · cases hv
  have hone : ∀ v ∈ (xs.drop off).take kk, v.oneCell' = true := fun v hv => hx1 v (List.mem_of_mem_drop (List.mem_of_mem_take hv))
  have hdl : ((xs.drop off).take kk).length = kk := by rw [List.length_take, List.length_drop]; omega
  have hcopy := run_copy_row (P := Tryz.prog) w2 33 33 3 5 w.heap.size 0 kk kk ⟨g, off, none⟩ (L - off) (cap - off) cur2 5 ((xs.drop off).take kk) Tryz.underlying33 infosz5 hg2 (by rw [hdl]; exact (Nat.min_eq_right hk2).symm) hsrc (by rw [hdl]; omega) hone
  obtain ⟨cs4, hcs4⟩ : ∃ cs4, cs4 = (cur2.toList.take 0 ++ (xs.drop off).take kk ++ cur2.toList.drop (0 + ((xs.drop off).take kk).length)).toArray := ⟨_, rfl⟩
  rw [← hcs4] at hcopy
  have hg4 : (w2.setRow w.heap.size cs4).heap[w.heap.size]? = some (.cells cs4 5 (0, 0)) := setRow_heap w2 _ cur2 _ 5 _ hg2
  have b5 : ¬ cap = off := by omega
  have HH := Lib.hid (And.intro hcs4 (And.intro hg4 hB2))
  clear hT hF hn hn2 hcs4 hg4 hB2 hown hown2 hgrow hg hg' hsrc hone htk hxd hg2 hx1
  go_enter Tryz.func143, Tryz.ntmps143
  go_wp2
  go_ret
  obtain ⟨hcs4, hg4, hB2⟩ := HH.out
  have hs4 : cs4.size = kk := by
    rw [hcs4]
    simp only [List.size_toArray, List.length_append, List.length_take, List.length_drop, Array.length_toList, hxl, hcs2]
    omega
  refine ⟨_, rfl, ⟨by rw [hdl]; omega, .inr ⟨w.heap.size, kk, cs4, rfl, Nat.le_refl _, hg4, Nat.le_refl _, hcm2, by omega, ?_⟩⟩, ?_⟩
  · rw [hcs4]
    have e : kk * 1 = (cur2.toList.take 0 ++ (xs.drop off).take kk).length := by simp; omega
    rw [e]
    have := List.take_left (l₁ := cur2.toList.take 0 ++ (xs.drop off).take kk) (l₂ := cur2.toList.drop (0 + ((xs.drop off).take kk).length))
    rw [this]
    simp
  · exact ⟨hB2.os, hB2.tape, hB2.output, by have := hB2.size; simpa [World.setRow] using this, fun k hk => (setRow_other _ _ _ _ (by omega)).trans (hB2.block k hk)⟩
end Go.Proofs.YtbbmihlabllliaaGreatDoor
