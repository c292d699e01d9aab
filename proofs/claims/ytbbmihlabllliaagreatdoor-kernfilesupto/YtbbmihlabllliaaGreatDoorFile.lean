/- The contracts of what is asked of a file by its number. -/
import Derived.Laws.CopyRow
import Derived.Test.YtbbmihlabllliaaGreatDoorTake
import Derived.Test.YtbbmihlabllliaaGreatDoorZeros
namespace Go.Proofs.YtbbmihlabllliaaGreatDoor
open Go.RowKit Go.Shelf Go.Maps

def u8s (l : List UInt8) : List Value := l.map fun c => Value.int .u8 (c.toNat : Int)
theorem u8s_length (l : List UInt8) : (u8s l).length = l.length := by simp [u8s]
theorem u8s_one (l : List UInt8) : ∀ u ∈ u8s l, u.oneCell' = true := fun u hu => by
  obtain ⟨c, _, rfl⟩ := List.mem_map.1 hu; rfl
theorem infosz5 : (Tryz.prog.info? 5).map (·.size) = some 1 := by kernel_rfl

theorem row_ne {w : World} {base e n b t : Nat} {v : Value} {xs : List Value} {cs : Array Value} {fz : Nat × Nat} (h : w.ownsRow base e 1 v n xs) (hb : w.heap[b]? = some (.cells cs t fz)) (he : t ≠ e) : v.ownBlock ≠ some b := fun hv => by
  rcases h.2 with ⟨rfl, _⟩ | ⟨g, cap, cur, rfl, _, hg, _⟩
  · simp [Value.ownBlock] at hv
  · obtain rfl : g = b := by simpa [Value.ownBlock] using hv
    rw [hg] at hb; cases hb; exact he rfl
theorem row_shape {w : World} {base e n : Nat} {v : Value} {xs : List Value} (h : w.ownsRow base e 1 v n xs) (hn : 0 < n) : ∃ g cap cur, v = .slice (some ⟨g, 0, none⟩) n cap ∧ base ≤ g ∧ w.heap[g]? = some (.cells cur e (0, 0)) ∧ n ≤ cap ∧ cap ≤ maxLen ∧ cur.size = cap ∧ cur.toList.take n = xs := by
  rcases h.2 with ⟨_, rfl⟩ | ⟨g, cap, cur, rfl, hb, hg, h1, h2, h3, h4⟩
  · omega
  · exact ⟨g, cap, cur, rfl, hb, hg, h1, h2, by simpa using h3, by simpa using h4⟩

set_option maxRecDepth 100000 in
set_option maxHeartbeats 4000000 in
theorem write_end (t n fb N : Nat) (F : DataW Value) (ino now : Int) (x : Nd) (a : Option Addr) (L cap base bb o k bcap : Nat) (xs : List Value) (bs : List UInt8) (r nm la : Value) (w : World)
    (hT : TrAt w t r (.map (some fb)) nm la) (hF : w.ownsMap Tryz.prog 3 R fb N F) (hi : (Lit.int .i64 ino).wf = true) (hlk : look F (ik ino) = ptr n) (hn : NdAt w n x) (hxd : x.data = .slice a L cap) (hown : w.ownsRow base 5 1 (.slice a L cap) L xs) (hbase : base ≤ w.heap.size)
    (hL : L ≤ 16777216) (hk0 : 0 < k) (hk : k ≤ 16777216) (hbk : bs.length = k) (_hcap : k ≤ bcap) (hc : ∀ j, j < k → w.cell? ⟨bb, o + j, none⟩ = some (.int .u8 ((bs[j]?.getD 0).toNat : Int))) (hbb : (Value.slice a L cap).ownBlock ≠ some bb) (hbn : bb ≠ n) :
    Calls Tryz.prog 141 #[.pointer (some ⟨t, 0, none⟩), .int .i64 ino, .int .i64 L, .slice (some ⟨bb, o, none⟩) k bcap, .int .i64 now] w fun e w' => (∃ v, e = .returned v) ∧ ∃ v', NdAt w' n { x with data := v', tick := now } ∧ w'.ownsRow base 5 1 v' (L + k) (xs ++ u8s bs) ∧ Turn (n :: (Value.slice a L cap).ownBlock.toList) w w' ∧ (v'.ownBlock = (Value.slice a L cap).ownBlock ∨ ∃ g, v'.ownBlock = some g ∧ w.heap.size ≤ g) := by
  have hxl : xs.length = L := by simpa using hown.1
  have hrl := lookI hF hi
  rw [hlk] at hrl
  have t1 := hT.c1
  have d6 := hn.c6
  rw [hxd] at d6
  have f6 := hn.fz 6
  have hnlt := hn.lt
  have hnrow : (Value.slice a L cap).ownBlock ≠ some n := row_ne hown hn (by decide)
  obtain ⟨v2, w2, hrun, hown2, hgrow, hloc⟩ := run_zeros w base (.slice a L cap) L xs k hown hk0 (by omega) hbase
  have hn2 : NdAt w2 n x := (hgrow.block n hnlt (fun e => hnrow e.symm)).trans hn
  obtain ⟨g, cap2, cur, rfl, hbg, hg, hcap2, hcm, hcs, htk⟩ := row_shape hown2 (by omega)
  have hgn : g ≠ n := fun e => by rw [e, show w2.heap[n]? = _ from hn2] at hg; cases hg
  have hc2 : ∀ j, j < k → w2.cell? ⟨bb, o + j, none⟩ = some (.int .u8 ((bs[j]?.getD 0).toNat : Int)) := fun j hj => hgrow.cell (hc j hj) (fun e => hbb e.symm)
  -- the world behind the store of the slice
  obtain ⟨w3, hw3⟩ : ∃ w3, w3 = w2.setCell ⟨n, 6, none⟩ (.slice (some ⟨g, 0, none⟩) (L + k) cap2) := ⟨_, rfl⟩
  have hn3 : NdAt w3 n { x with data := .slice (some ⟨g, 0, none⟩) (L + k) cap2 } := by rw [hw3]; exact hn2.set 6 _ (by simp [Nd.arr])
  have hg3 : w3.heap[g]? = some (.cells cur 5 (0, 0)) := by rw [hw3, Below.heap_setCell _ _ _ _ (by simpa using hgn)]; exact hg
  have hc3 : ∀ j v, (u8s bs)[j]? = some v → w3.cell? ((⟨bb, o, none⟩ : Addr).add j) = some v := fun j v hv => by
    have hj : j < k := by have := (List.getElem?_eq_some_iff.1 hv).1; rw [u8s_length] at this; omega
    rw [Addr.add_lit, hw3, World.cell?_setCell_far _ _ _ _ (by simpa using fun e => hbn e.symm), hc2 j hj, ← hv]
    simp [u8s, show j < bs.length by omega]
  have hul := u8s_length bs
  obtain ⟨cs4, hcs4⟩ : ∃ cs4, cs4 = (cur.toList.take L ++ u8s bs ++ cur.toList.drop (L + (u8s bs).length)).toArray := ⟨_, rfl⟩
  have hcopy := run_copy_row (P := Tryz.prog) w3 33 33 3 5 g L k (cap2 - L) ⟨bb, o, none⟩ k bcap cur 5 (u8s bs) Tryz.underlying33 infosz5 hg3 (by rw [hul, hbk]; simp) hc3 (by rw [hul]; omega) (u8s_one bs)
  rw [← hcs4] at hcopy
  have hg4 : (w3.setRow g cs4).heap[g]? = some (.cells cs4 5 (0, 0)) := setRow_heap w3 g cur _ 5 _ hg3
  have hn4 : NdAt (w3.setRow g cs4) n { x with data := .slice (some ⟨g, 0, none⟩) (L + k) cap2 } := (setRow_other w3 g n _ (fun e => hgn e.symm)).trans hn3
  have e4 := hn4.c2
  have z4 := hn4.fz 2
  have e3 := hn3.c6
  have e2 := hn2.c6
  have z2 := hn2.fz 6
  have b1 : ¬ ((L : Int) < 0) := by omega
  have b2 : ¬ ((16777216 : Int) < (L : Int)) := by omega
  have b3 : ((k : Int) == 0) = false := by simp; omega
  have b4 : ((L : Int) + (k : Int) - (L : Int)) = (k : Int) := by omega
  have b5 : ¬ cap2 = L := by omega
  have HH := Lib.hid (And.intro hw3 (And.intro hcs4 (And.intro hg4 (And.intro hn4 (And.intro hgrow (And.intro hloc htk))))))
  clear hT hF hn hown hn2 hn3 hg3 hc2 hc hc3 hg4 hn4 hgrow hloc hcs4 hxd htk hown2 hg
  rw [hw3] at e3 e4 z4 hcopy
  clear hw3
  go_enter Tryz.func141, Tryz.ntmps141
  go_wp2_with (at_builtin; refine wpList_zeros w rfl _ _ rfl (.slice a L cap) k rfl rfl _ _ hrun ?_)
  obtain ⟨hw3, hcs4, hg4, hn4, hgrow, hloc, htk⟩ := HH.out
  rw [hw3] at hg4 hn4
  go_end0
  have hn5 := hn4.set 2 (.int .i64 now) (y := { x with data := .slice (some ⟨g, 0, none⟩) (L + k) cap2, tick := now }) (by simp [Nd.arr])
  have hg5 : (((w2.setCell ⟨n, 6, none⟩ (.slice (some ⟨g, 0, none⟩) (L + k) cap2)).setRow g cs4).setCell ⟨n, 2, none⟩ (.int .i64 now)).heap[g]? = some (.cells cs4 5 (0, 0)) := by rw [Below.heap_setCell _ _ _ _ (by simpa using hgn)]; exact hg4
  have htL : cur.toList.take L = xs := by
    have h1 : (cur.toList.take (L + k)).take L = (xs ++ noughts k).take L := by rw [htk]
    rw [List.take_take, Nat.min_eq_left (by omega)] at h1
    rw [h1, ← hxl]
    exact List.take_left
  refine ⟨⟨_, rfl⟩, _, hn5, ⟨by rw [List.length_append, hul]; omega, .inr ⟨g, cap2, cs4, rfl, hbg, hg5, by omega, hcm, ?_, ?_⟩⟩, ?_, hloc⟩
  · rw [hcs4]
    simp only [List.size_toArray, List.length_append, List.length_take, List.length_drop, Array.length_toList, hul]
    omega
  · rw [hcs4, htL]
    have : (L + k) * 1 = (xs ++ u8s bs).length := by rw [List.length_append, hul]; omega
    rw [this]
    exact List.take_left
  · refine ⟨hgrow.os, hgrow.tape, hgrow.output, ?_, fun j hj hs => ?_⟩
    · have := hgrow.size
      simpa [World.setCell, World.setRow] using this
    · simp only [List.mem_cons, not_or] at hs
      have hjo : (Value.slice a L cap).ownBlock ≠ some j := fun e => hs.2 (by rw [e]; simp)
      have hjg : j ≠ g := fun e => by
        rcases hloc with h | ⟨g', h, h2⟩
        · exact hjo (by rw [← h, e]; rfl)
        · have : g = g' := by simpa [Value.ownBlock] using h
          omega
      rw [Below.heap_setCell _ _ _ _ (by simpa using hs.1), setRow_other _ _ _ _ hjg, Below.heap_setCell _ _ _ _ (by simpa using hs.1)]
      exact hgrow.block j hj (fun e => hjo e.symm)

set_option maxRecDepth 100000 in
set_option maxHeartbeats 4000000 in
theorem write_none (t n fb N : Nat) (F : DataW Value) (ino now : Int) (L bcap : Nat) (a : Option Addr) (r nm la : Value) (w : World)
    (hT : TrAt w t r (.map (some fb)) nm la) (hF : w.ownsMap Tryz.prog 3 R fb N F) (hi : (Lit.int .i64 ino).wf = true) (hlk : look F (ik ino) = ptr n) (hL : L ≤ 16777216) :
    Calls Tryz.prog 141 #[.pointer (some ⟨t, 0, none⟩), .int .i64 ino, .int .i64 L, .slice a 0 bcap, .int .i64 now] w fun e w' => (∃ v, e = .returned v) ∧ w' = w := by
  have hrl := lookI hF hi
  rw [hlk] at hrl
  have t1 := hT.c1
  have b1 : ¬ ((L : Int) < 0) := by omega
  have b2 : ¬ ((16777216 : Int) < (L : Int)) := by omega
  clear hT hF
  go_enter Tryz.func141, Tryz.ntmps141
  go_wp2
  refine bodyPost_ret (results_none rfl _ _ _) rfl ?_
  exact ⟨⟨_, rfl⟩, rfl⟩

set_option maxHeartbeats 1000000 in
theorem hold_c (t n fb N : Nat) (F : DataW Value) (ino : Int) (x : Nd) (r nm la : Value) (w : World)
    (hT : TrAt w t r (.map (some fb)) nm la) (hF : w.ownsMap Tryz.prog 3 R fb N F) (hi : (Lit.int .i64 ino).wf = true) (hlk : look F (ik ino) = ptr n) (hn : NdAt w n x) (h0 : 0 ≤ x.holds) (h1 : x.holds < 4611686018427387904) :
    Calls Tryz.prog 108 #[.pointer (some ⟨t, 0, none⟩), .int .i64 ino] w fun e w' => (∃ v, e = .returned v) ∧ NdAt w' n { x with holds := x.holds + 1 } ∧ Turn [n] w w' := by
  have hrl := lookI hF hi
  rw [hlk] at hrl
  have t1 := hT.c1
  have e8 := hn.c8
  have z8 := hn.fz 8
  have HN := Lib.hid hn
  clear hT hF hn
  go_enter Tryz.func108, Tryz.ntmps108
  go_wp2
  go_end0
  exact ⟨⟨_, rfl⟩, HN.out.set 8 _ (by simp [Nd.arr]), Turn.set _ _ _ _ (by simp)⟩

set_option maxHeartbeats 1000000 in
theorem size_c (t n fb N : Nat) (F : DataW Value) (ino : Int) (x : Nd) (a : Option Addr) (L cap : Nat) (r nm la : Value) (w : World)
    (hT : TrAt w t r (.map (some fb)) nm la) (hF : w.ownsMap Tryz.prog 3 R fb N F) (hi : (Lit.int .i64 ino).wf = true) (hlk : look F (ik ino) = ptr n) (hn : NdAt w n x) (hd : x.data = .slice a L cap) :
    Calls Tryz.prog 169 #[.pointer (some ⟨t, 0, none⟩), .int .i64 ino] w fun e w' => e = .returned (.int .i64 L) ∧ w' = w := by
  have hrl := lookI hF hi
  rw [hlk] at hrl
  have t1 := hT.c1
  have e6 := hn.c6
  rw [hd] at e6
  clear hT hF hn
  go_enter Tryz.func169, Tryz.ntmps169
  go_wp2
  go_ret
  exact ⟨rfl, rfl⟩
set_option maxHeartbeats 1000000 in
theorem size_none (t fb N : Nat) (F : DataW Value) (ino : Int) (r nm la : Value) (w : World)
    (hT : TrAt w t r (.map (some fb)) nm la) (hF : w.ownsMap Tryz.prog 3 R fb N F) (hi : (Lit.int .i64 ino).wf = true) (hlk : look F (ik ino) = .pointer none) :
    Calls Tryz.prog 169 #[.pointer (some ⟨t, 0, none⟩), .int .i64 ino] w fun e w' => e = .returned (.int .i64 0) ∧ w' = w := by
  have hrl := lookI hF hi
  rw [hlk] at hrl
  have t1 := hT.c1
  clear hT hF
  go_enter Tryz.func169, Tryz.ntmps169
  go_wp2
  go_ret
  exact ⟨rfl, rfl⟩
set_option maxHeartbeats 1000000 in
theorem files_c (t fb N : Nat) (F : DataW Value) (r nm la : Value) (w : World) (hT : TrAt w t r (.map (some fb)) nm la) (hF : w.ownsMap Tryz.prog 3 R fb N F) :
    Calls Tryz.prog 42 #[.pointer (some ⟨t, 0, none⟩)] w fun e w' => e = .returned (.int .i64 (Maps.size F)) ∧ w' = w := by
  have hlen := hF.len under62 3
  have t1 := hT.c1
  clear hT hF
  go_enter Tryz.func42, Tryz.ntmps42
  go_wp2
  go_ret
  exact ⟨rfl, rfl⟩
end Go.Proofs.YtbbmihlabllliaaGreatDoor
/- The contracts of Drop and Read. -/
namespace Go.Proofs.YtbbmihlabllliaaGreatDoor
open Go.RowKit Go.Shelf Go.Maps

set_option maxHeartbeats 1000000 in
theorem drop_held (t n fb N : Nat) (F : DataW Value) (ino : Int) (x : Nd) (r nm la : Value) (w : World)
    (hT : TrAt w t r (.map (some fb)) nm la) (hF : w.ownsMap Tryz.prog 3 R fb N F) (hi : (Lit.int .i64 ino).wf = true) (hlk : look F (ik ino) = ptr n) (hn : NdAt w n x) (hd : x.dir = false) (h0 : 2 ≤ x.holds) (h1 : x.holds < 4611686018427387904) :
    Calls Tryz.prog 139 #[.pointer (some ⟨t, 0, none⟩), .int .i64 ino] w fun e w' => (∃ v, e = .returned v) ∧ NdAt w' n { x with holds := x.holds - 1 } ∧ Turn [n] w w' := by
  have hrl := lookI hF hi
  rw [hlk] at hrl
  have t1 := hT.c1
  have e8 := hn.c8
  have z8 := hn.fz 8
  have hn2 : NdAt (w.setCell ⟨n, 8, none⟩ (.int .i64 (x.holds - 1))) n { x with holds := x.holds - 1 } := hn.set 8 _ (by simp [Nd.arr])
  have hdr := drain_held t n { x with holds := x.holds - 1 } _ hn2 hd (by by_cases h : x.links = 0; exact .inr ⟨h, by simp; omega⟩; exact .inl h)
  have hmx : max (0 : Int) (x.holds - 1) = x.holds - 1 := by omega
  have HN := Lib.hid hn2
  clear hT hF hn hn2
  go_enter Tryz.func139, Tryz.ntmps139
  go_wp2_with (go_at_call 130; refine hdr.mono ?_; rintro e w2 ⟨⟨v, rfl⟩, hw2⟩; rw [hw2])
  go_end0
  exact ⟨⟨_, rfl⟩, HN.out, Turn.set _ _ _ _ (by simp)⟩

set_option maxHeartbeats 1000000 in
theorem drop_gone (t n fb N : Nat) (F : DataW Value) (x : Nd) (r nm la : Value) (w : World)
    (hT : TrAt w t r (.map (some fb)) nm la) (hF : w.ownsMap Tryz.prog 3 R fb N F) (hi : (Lit.int .i64 x.ino).wf = true) (hlk : look F (ik x.ino) = ptr n) (hn : NdAt w n x) (hd : x.dir = false) (hl : x.links = 0) (h0 : x.holds = 1) :
    Calls Tryz.prog 139 #[.pointer (some ⟨t, 0, none⟩), .int .i64 x.ino] w fun e w' => (∃ v, e = .returned v) ∧ NdAt w' n { x with holds := 0 } ∧ w'.ownsMap Tryz.prog 3 R fb N (F.del (ik x.ino)) ∧ Turn [n, fb] w w' := by
  have hrl := lookI hF hi
  rw [hlk] at hrl
  have t1 := hT.c1
  have e8 := hn.c8
  rw [h0] at e8
  have z8 := hn.fz 8
  have hfn := nd_ne_map hn hF
  have htn := nd_ne_tr hn hT
  have hn2 : NdAt (w.setCell ⟨n, 8, none⟩ (.int .i64 0)) n { x with holds := 0 } := hn.set 8 _ (by simp [Nd.arr])
  have hdr := drain_gone t n fb N r nm la F { x with holds := 0 } _ (tr_setCell hT (a := ⟨n, 8, none⟩) (.int .i64 0) (fun e => htn e.symm)) hn2 (hF.setCell (a := ⟨n, 8, none⟩) hfn _) hi hd hl rfl
  have HN := Lib.hid hn2
  clear hT hF hn hn2
  go_enter Tryz.func139, Tryz.ntmps139
  go_wp2_with (go_at_call 130; refine hdr.mono ?_; rintro e w2 ⟨⟨v, rfl⟩, hF2, hU2⟩)
  go_end0
  exact ⟨⟨_, rfl⟩, hU2.nd HN.out (by simp; omega), hF2, (Turn.set _ _ _ _ (by simp)).trans (hU2.mono (by simp))⟩

set_option maxRecDepth 100000 in
set_option maxHeartbeats 4000000 in
theorem read_none (t n fb N : Nat) (F : DataW Value) (ino most : Int) (x : Nd) (a : Option Addr) (cap : Nat) (r nm la : Value) (w : World)
    (hT : TrAt w t r (.map (some fb)) nm la) (hF : w.ownsMap Tryz.prog 3 R fb N F) (hi : (Lit.int .i64 ino).wf = true) (hlk : look F (ik ino) = ptr n) (hn : NdAt w n x) (hxd : x.data = .slice a 0 cap) (hm : 0 < most) :
    Calls Tryz.prog 143 #[.pointer (some ⟨t, 0, none⟩), .int .i64 ino, .int .i64 0, .int .i64 most] w fun e w' => e = .returned (.slice none 0 0) ∧ w' = w := by
  have hrl := lookI hF hi
  rw [hlk] at hrl
  have t1 := hT.c1
  have d6 := hn.c6
  rw [hxd] at d6
  have b1 : ¬ (most ≤ 0) := by omega
  clear hT hF hn
  go_enter Tryz.func143, Tryz.ntmps143
  go_wp2
  go_ret
  exact ⟨rfl, rfl⟩

set_option maxRecDepth 100000 in
set_option maxHeartbeats 4000000 in
theorem read_c (t n fb N : Nat) (F : DataW Value) (ino : Int) (x : Nd) (a : Option Addr) (L cap base off most : Nat) (xs : List Value) (r nm la : Value) (w : World)
    (hT : TrAt w t r (.map (some fb)) nm la) (hF : w.ownsMap Tryz.prog 3 R fb N F) (hi : (Lit.int .i64 ino).wf = true) (hlk : look F (ik ino) = ptr n) (hn : NdAt w n x) (hxd : x.data = .slice a L cap) (hown : w.ownsRow base 5 1 (.slice a L cap) L xs)
    (hx1 : ∀ v ∈ xs, v.oneCell' = true) (hL : L ≤ 33554432) (ho : off < L) (hm : L - off ≤ most) (hm2 : most ≤ 4611686018427387904) :
    Calls Tryz.prog 143 #[.pointer (some ⟨t, 0, none⟩), .int .i64 ino, .int .i64 off, .int .i64 most] w fun e w' => ∃ v', e = .returned v' ∧ w'.ownsRow w.heap.size 5 1 v' (L - off) (xs.drop off) ∧ Below w.heap.size w w' := by
  have hrl := lookI hF hi
  rw [hlk] at hrl
  have t1 := hT.c1
  have d6 := hn.c6
  rw [hxd] at d6
  obtain ⟨g, cap', cur, hv, hbg, hg, hcap, hcm, hcs, htk⟩ := row_shape hown (by omega)
  cases hv
  have b0 : ¬ ((off : Int) < 0) := by omega
  have b1 : ¬ ((most : Int) ≤ 0) := by omega
  have b2 : ¬ ((L : Int) ≤ (off : Int)) := by omega
  have b3 : min (most : Int) ((L : Int) - (off : Int)) = ((L - off : Nat) : Int) := by omega
  obtain ⟨i0, hi0, hz0, hz1, hz2⟩ := info_parts info5
  obtain ⟨w2, hrun, hown2, hgrow⟩ := run_make_full (P := Tryz.prog) w w.heap.size 33 5 i0 (.int .u8 0) 1 Tryz.underlying33 hi0 hz0 hz1 .i64 .i64 (L - off) (by rw [hz2]; omega) (by unfold maxLen; omega) (Nat.le_refl _)
  obtain ⟨g2, cap2, cur2, hv2, _, hg2, hc2, hcm2, hcs2, _⟩ := row_shape hown2 (by omega)
  cases hv2
  have hB2 : Below w.heap.size w w2 := ⟨hgrow.os, hgrow.tape, hgrow.output, hgrow.size, fun k hk => hgrow.block k hk (by simp)⟩
  have hn2 := hn.below hB2 hn.lt
  have d62 := hn2.c6
  rw [hxd] at d62
  have hgl : g < w.heap.size := (Array.getElem?_eq_some_iff.1 hg).1
  have hg' : w2.heap[g]? = some (.cells cur 5 (0, 0)) := (hB2.block g hgl).trans hg
  have hxl : xs.length = L := by simpa using hown.1
  have hsrc : ∀ j v, (xs.drop off)[j]? = some v → w2.cell? ((⟨g, off, none⟩ : Addr).add j) = some v := fun j v hv => by
    rw [Addr.add_lit]
    rw [List.getElem?_drop, ← htk, List.getElem?_take] at hv
    simp only [World.cell?, hg']
    split at hv
    · simpa using hv
    · cases hv
  have hone : ∀ v ∈ xs.drop off, v.oneCell' = true := fun v hv => hx1 v (List.mem_of_mem_drop hv)
  have hdl : (xs.drop off).length = L - off := by rw [List.length_drop]; omega
  have hcopy := run_copy_row (P := Tryz.prog) w2 33 33 3 5 w.heap.size 0 (L - off) (L - off) ⟨g, off, none⟩ (L - off) (cap - off) cur2 5 (xs.drop off) Tryz.underlying33 infosz5 hg2 (by rw [hdl]; simp) hsrc (by rw [hdl]; omega) hone
  obtain ⟨cs4, hcs4⟩ : ∃ cs4, cs4 = (cur2.toList.take 0 ++ xs.drop off ++ cur2.toList.drop (0 + (xs.drop off).length)).toArray := ⟨_, rfl⟩
  rw [← hcs4] at hcopy
  have hg4 : (w2.setRow w.heap.size cs4).heap[w.heap.size]? = some (.cells cs4 5 (0, 0)) := setRow_heap w2 _ cur2 _ 5 _ hg2
  have b5 : ¬ cap = off := by omega
  have HH := Lib.hid (And.intro hcs4 (And.intro hg4 hB2))
  clear hT hF hn hn2 hcs4 hg4 hB2 hown hown2 hgrow hg hg' hsrc hone htk hxd hg2 hx1
  go_enter Tryz.func143, Tryz.ntmps143
  go_wp2
  go_ret
  obtain ⟨hcs4, hg4, hB2⟩ := HH.out
  have hs4 : cs4.size = L - off := by
    rw [hcs4]
    simp only [List.size_toArray, List.length_append, List.length_take, List.length_drop, Array.length_toList, hxl, hcs2]
    omega
  refine ⟨_, rfl, ⟨by rw [hdl]; omega, .inr ⟨w.heap.size, L - off, cs4, rfl, Nat.le_refl _, hg4, Nat.le_refl _, hcm2, by omega, ?_⟩⟩, ?_⟩
  · rw [hcs4]
    have e : (L - off) * 1 = (cur2.toList.take 0 ++ xs.drop off).length := by simp; omega
    rw [e]
    have := List.take_left (l₁ := cur2.toList.take 0 ++ xs.drop off) (l₂ := cur2.toList.drop (0 + (xs.drop off).length))
    rw [this]
    simp
  · exact ⟨hB2.os, hB2.tape, hB2.output, by have := hB2.size; simpa [World.setRow] using this, fun k hk => (setRow_other _ _ _ _ (by omega)).trans (hB2.block k hk)⟩
end Go.Proofs.YtbbmihlabllliaaGreatDoor
/- A file as it is told: its bytes in memory of its own, its names, how often it is held. -/
namespace Go.Proofs.YtbbmihlabllliaaGreatDoor
open Go.RowKit Go.Shelf Go.Maps

/-- Bytes that a slice holds, in a block below B; or there is none. -/
def Src (B : Nat) (w : World) (v : Value) (bs : List UInt8) : Prop :=
  ∃ a cap, v = .slice a bs.length cap ∧ bs.length ≤ cap ∧ (bs.length = 0 ∨ ∃ b o, a = some ⟨b, o, none⟩ ∧ b < B ∧ ∀ j, j < bs.length → w.cell? ⟨b, o + j, none⟩ = some (.int .u8 ((bs[j]?.getD 0).toNat : Int)))
theorem Src.below {B : Nat} {w w' : World} {v : Value} {bs : List UInt8} (h : Src B w v bs) (hb : Below B w w') : Src B w' v bs := by
  obtain ⟨a, cap, hv, hc, h0 | ⟨b, o, ha, hB, hcell⟩⟩ := h
  · exact ⟨a, cap, hv, hc, .inl h0⟩
  · exact ⟨a, cap, hv, hc, .inr ⟨b, o, ha, hB, fun j hj => (hb.cell (p := ⟨b, o + j, none⟩) hB).trans (hcell j hj)⟩⟩

def FileAt (B : Nat) (w : World) (n : Nat) (ino links holds : Int) (bs : List UInt8) : Prop :=
  B ≤ n ∧ ∃ md tk a cap, NdAt w n ⟨ino, md, tk, false, .pointer none, .map none, .slice a bs.length cap, links, holds⟩ ∧ w.ownsRow B 5 1 (.slice a bs.length cap) bs.length (u8s bs)

theorem own_ge {w : World} {B e n : Nat} {v : Value} {xs : List Value} (h : w.ownsRow B e 1 v n xs) {g : Nat} (hg : v.ownBlock = some g) : B ≤ g := by
  rcases h.2 with ⟨rfl, _⟩ | ⟨g', cap, cur, rfl, hb, _⟩
  · simp [Value.ownBlock] at hg
  · obtain rfl : g' = g := by simpa [Value.ownBlock] using hg
    exact hb
theorem own_turn {w w' : World} {B e n : Nat} {v : Value} {xs : List Value} {S : List Nat} (h : w.ownsRow B e 1 v n xs) (hu : Turn S w w') (hs : ∀ g, v.ownBlock = some g → g ∉ S) : w'.ownsRow B e 1 v n xs := by
  refine ⟨h.1, ?_⟩
  rcases h.2 with hn | ⟨g, cap, cur, rfl, hb, hg, rest⟩
  · exact .inl hn
  · exact .inr ⟨g, cap, cur, rfl, hb, (hu.block g (Array.getElem?_eq_some_iff.1 hg).1 (hs g rfl)).trans hg, rest⟩
theorem FileAt.turn {B : Nat} {w w' : World} {n : Nat} {ino links holds : Int} {bs : List UInt8} {S : List Nat} (h : FileAt B w n ino links holds bs) (hu : Turn S w w') (hs : ∀ k, k ∈ S → k < B) : FileAt B w' n ino links holds bs := by
  obtain ⟨hB, md, tk, a, cap, hn, ho⟩ := h
  exact ⟨hB, md, tk, a, cap, hu.nd hn (fun e => by have := hs n e; omega), own_turn ho hu (fun g hg e => by have := hs g e; have := own_ge ho hg; omega)⟩

theorem write_file (t n fb N : Nat) (F : DataW Value) (ino now : Int) (links holds : Int) (B : Nat) (v : Value) (bs cs : List UInt8) (r nm la : Value) (w : World) (hBw : B ≤ w.heap.size)
    (hT : TrAt w t r (.map (some fb)) nm la) (hF : w.ownsMap Tryz.prog 3 R fb N F) (hi : (Lit.int .i64 ino).wf = true) (hlk : look F (ik ino) = ptr n) (hf : FileAt B w n ino links holds bs) (hv : Src B w v cs) (h1 : bs.length ≤ 16777216) (h2 : cs.length ≤ 16777216) :
    Calls Tryz.prog 141 #[.pointer (some ⟨t, 0, none⟩), .int .i64 ino, .int .i64 bs.length, v, .int .i64 now] w fun e w' => (∃ v, e = .returned v) ∧ FileAt B w' n ino links holds (bs ++ cs) ∧ Below B w w' := by
  obtain ⟨hBn, md, tk, a, cap, hn, ho⟩ := hf
  obtain ⟨a2, cap2, rfl, hc2, hsrc⟩ := hv
  by_cases hk : cs.length = 0
  · obtain rfl : cs = [] := List.eq_nil_of_length_eq_zero hk
    refine (write_none t n fb N F ino now bs.length cap2 a2 r nm la w hT hF hi hlk h1).mono ?_
    rintro e w' ⟨hv, rfl⟩
    exact ⟨hv, ⟨hBn, md, tk, a, cap, by simpa using hn, by simpa using ho⟩, Below.refl _ _⟩
  · rcases hsrc with h0 | ⟨b, o, rfl, hb, hcell⟩
    · exact absurd h0 hk
    · refine (write_end t n fb N F ino now _ a bs.length cap B b o cs.length cap2 (u8s bs) cs r nm la w hT hF hi hlk hn rfl ho hBw h1 (by omega) h2 rfl hc2 hcell (fun e => by have := own_ge ho e; omega) (by omega)).mono ?_
      rintro e w' ⟨hv, v', hn', ho', hU, hloc⟩
      obtain ⟨g, cap', cur, rfl, _⟩ := row_shape ho' (by omega)
      refine ⟨hv, ⟨hBn, md, now, some ⟨g, 0, none⟩, cap', by simpa using hn', by simpa [u8s] using ho'⟩, ⟨hU.os, hU.tape, hU.output, hU.size, fun k hk2 => hU.block k (by omega) ?_⟩⟩
      intro e
      rcases List.mem_cons.1 e with rfl | e
      · omega
      · have := own_ge ho (g := k) (by simpa using e)
        omega

theorem hold_file (t n fb N : Nat) (F : DataW Value) (ino : Int) (links holds : Int) (B : Nat) (bs : List UInt8) (r nm la : Value) (w : World) (hBw : B ≤ w.heap.size)
    (hT : TrAt w t r (.map (some fb)) nm la) (hF : w.ownsMap Tryz.prog 3 R fb N F) (hi : (Lit.int .i64 ino).wf = true) (hlk : look F (ik ino) = ptr n) (hf : FileAt B w n ino links holds bs) (h0 : 0 ≤ holds) (h1 : holds < 1000) :
    Calls Tryz.prog 108 #[.pointer (some ⟨t, 0, none⟩), .int .i64 ino] w fun e w' => (∃ v, e = .returned v) ∧ FileAt B w' n ino links (holds + 1) bs ∧ Below B w w' := by
  obtain ⟨hBn, md, tk, a, cap, hn, ho⟩ := hf
  refine (hold_c t n fb N F ino _ r nm la w hT hF hi hlk hn h0 (show holds < _ by omega)).mono ?_
  rintro e w' ⟨hv, hn', hU⟩
  exact ⟨hv, ⟨hBn, md, tk, a, cap, hn', own_turn ho hU (fun g hg e => by rw [List.mem_singleton] at e; exact row_ne ho hn (by decide) (e ▸ hg))⟩, ⟨hU.os, hU.tape, hU.output, hU.size, fun k hk => hU.block k (by omega) (by simp; omega)⟩⟩

theorem drop_file (t n fb N : Nat) (F : DataW Value) (ino : Int) (links holds : Int) (B : Nat) (bs : List UInt8) (r nm la : Value) (w : World) (hBw : B ≤ w.heap.size)
    (hT : TrAt w t r (.map (some fb)) nm la) (hF : w.ownsMap Tryz.prog 3 R fb N F) (hi : (Lit.int .i64 ino).wf = true) (hlk : look F (ik ino) = ptr n) (hf : FileAt B w n ino links holds bs) (h0 : 2 ≤ holds) (h1 : holds < 1000) :
    Calls Tryz.prog 139 #[.pointer (some ⟨t, 0, none⟩), .int .i64 ino] w fun e w' => (∃ v, e = .returned v) ∧ FileAt B w' n ino links (holds - 1) bs ∧ Below B w w' ∧ Turn [n] w w' := by
  obtain ⟨hBn, md, tk, a, cap, hn, ho⟩ := hf
  refine (drop_held t n fb N F ino _ r nm la w hT hF hi hlk hn rfl h0 (show holds < _ by omega)).mono ?_
  rintro e w' ⟨hv, hn', hU⟩
  exact ⟨hv, ⟨hBn, md, tk, a, cap, hn', own_turn ho hU (fun g hg e => by rw [List.mem_singleton] at e; exact row_ne ho hn (by decide) (e ▸ hg))⟩, ⟨hU.os, hU.tape, hU.output, hU.size, fun k hk => hU.block k (by omega) (by simp; omega)⟩, hU⟩

theorem gone_file (t n fb N : Nat) (F : DataW Value) (ino : Int) (B : Nat) (bs : List UInt8) (r nm la : Value) (w : World) (_hBw : B ≤ w.heap.size)
    (hT : TrAt w t r (.map (some fb)) nm la) (hF : w.ownsMap Tryz.prog 3 R fb N F) (hi : (Lit.int .i64 ino).wf = true) (hlk : look F (ik ino) = ptr n) (hf : FileAt B w n ino 0 1 bs) :
    Calls Tryz.prog 139 #[.pointer (some ⟨t, 0, none⟩), .int .i64 ino] w fun e w' => (∃ v, e = .returned v) ∧ w'.ownsMap Tryz.prog 3 R fb N (F.del (ik ino)) ∧ Turn [n, fb] w w' := by
  obtain ⟨hBn, md, tk, a, cap, hn, ho⟩ := hf
  refine (drop_gone t n fb N F _ r nm la w hT hF hi hlk hn rfl rfl rfl).mono ?_
  rintro e w' ⟨hv, hn', hF', hU⟩
  exact ⟨hv, hF', hU⟩

theorem size_file (t n fb N : Nat) (F : DataW Value) (ino : Int) (links holds : Int) (B : Nat) (bs : List UInt8) (r nm la : Value) (w : World)
    (hT : TrAt w t r (.map (some fb)) nm la) (hF : w.ownsMap Tryz.prog 3 R fb N F) (hi : (Lit.int .i64 ino).wf = true) (hlk : look F (ik ino) = ptr n) (hf : FileAt B w n ino links holds bs) :
    Calls Tryz.prog 169 #[.pointer (some ⟨t, 0, none⟩), .int .i64 ino] w fun e w' => e = .returned (.int .i64 bs.length) ∧ w' = w := by
  obtain ⟨hBn, md, tk, a, cap, hn, ho⟩ := hf
  exact size_c t n fb N F ino _ a bs.length cap r nm la w hT hF hi hlk hn rfl

theorem read_file (t n fb N : Nat) (F : DataW Value) (ino : Int) (links holds : Int) (B off most : Nat) (bs : List UInt8) (r nm la : Value) (w : World)
    (hT : TrAt w t r (.map (some fb)) nm la) (hF : w.ownsMap Tryz.prog 3 R fb N F) (hi : (Lit.int .i64 ino).wf = true) (hlk : look F (ik ino) = ptr n) (hf : FileAt B w n ino links holds bs) (hL : bs.length ≤ 33554432) (ho : off < bs.length ∨ off = 0) (hm : bs.length - off ≤ most) (hm0 : 0 < most) (hm2 : most ≤ 4611686018427387904) :
    Calls Tryz.prog 143 #[.pointer (some ⟨t, 0, none⟩), .int .i64 ino, .int .i64 off, .int .i64 most] w fun e w' => ∃ v', e = .returned v' ∧ w'.ownsRow w.heap.size 5 1 v' (bs.drop off).length (u8s (bs.drop off)) ∧ Below w.heap.size w w' := by
  obtain ⟨hBn, md, tk, a, cap, hn, hown⟩ := hf
  by_cases hlt : off < bs.length
  · refine (read_c t n fb N F ino _ a bs.length cap B off most (u8s bs) r nm la w hT hF hi hlk hn rfl hown (u8s_one bs) hL hlt hm hm2).mono ?_
    rintro e w' ⟨v', rfl, h1, h2⟩
    exact ⟨v', rfl, by rw [List.length_drop]; simpa [u8s] using h1, h2⟩
  · obtain rfl : off = 0 := by omega
    have hz : bs.length = 0 := by omega
    obtain rfl : bs = [] := List.eq_nil_of_length_eq_zero hz
    refine (read_none t n fb N F ino most _ a cap r nm la w hT hF hi hlk hn rfl (by omega)).mono ?_
    rintro e w' ⟨rfl, rfl⟩
    exact ⟨_, rfl, World.ownsRow_nil _ _ _ _, Below.refl _ _⟩
end Go.Proofs.YtbbmihlabllliaaGreatDoor
