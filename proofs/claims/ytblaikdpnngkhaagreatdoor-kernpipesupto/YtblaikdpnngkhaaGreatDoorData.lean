/- The contracts of what is asked of a file by its number. -/
import Derived.Laws.CopyRow
import Derived.Test.YtblaikdpnngkhaaGreatDoorTake
import Derived.Test.YtblaikdpnngkhaaGreatDoorZeros
namespace Go.Proofs.YtblaikdpnngkhaaGreatDoor
open Go.RowKit Go.Shelf Go.Maps

def u8s (l : List UInt8) : List Value := l.map fun c => Value.int .u8 (c.toNat : Int)
theorem u8s_length (l : List UInt8) : (u8s l).length = l.length := by simp [u8s]
theorem u8s_one (l : List UInt8) : ∀ u ∈ u8s l, u.oneCell' = true := fun u hu => by
  obtain ⟨c, _, rfl⟩ := List.mem_map.1 hu; rfl
theorem infosz5 : (Tryz.prog.info? 5).map (·.size) = some 1 := by kernel_rfl

theorem row_ne {w : World} {base e n b t : Nat} {v : Value} {xs : List Value} {cs : Array Value} {fz : Nat × Nat} (h : w.ownsRow base e 1 v n xs) (hb : w.heap[b]? = some (.cells cs t fz)) (he : t ≠ e) : v.ownBlock ≠ some b := fun hv => by
  rcases h.2 with ⟨rfl, _⟩ | ⟨g, cap, cur, rfl, _, hg, _⟩
  · simp [Value.ownBlock] at hv
  · obtain rfl : g = b := by simpa [Value.ownBlock] using hv
    rw [hg] at hb; cases hb; exact he rfl
theorem row_shape {w : World} {base e n : Nat} {v : Value} {xs : List Value} (h : w.ownsRow base e 1 v n xs) (hn : 0 < n) : ∃ g cap cur, v = .slice (some ⟨g, 0, none⟩) n cap ∧ base ≤ g ∧ w.heap[g]? = some (.cells cur e (0, 0)) ∧ n ≤ cap ∧ cap ≤ maxLen ∧ cur.size = cap ∧ cur.toList.take n = xs := by
  rcases h.2 with ⟨_, rfl⟩ | ⟨g, cap, cur, rfl, hb, hg, h1, h2, h3, h4⟩
  · omega
  · exact ⟨g, cap, cur, rfl, hb, hg, h1, h2, by simpa using h3, by simpa using h4⟩

set_option maxRecDepth 100000 in
set_option maxHeartbeats 4000000 in
theorem write_end (t n fb N : Nat) (F : DataW Value) (ino now : Int) (x : Nd) (a : Option Addr) (L cap base bb o k bcap : Nat) (xs : List Value) (bs : List UInt8) (r nm la : Value) (w : World)
    (hT : TrAt w t r (.map (some fb)) nm la) (hF : w.ownsMap Tryz.prog 3 R fb N F) (hi : (Lit.int .i64 ino).wf = true) (hlk : look F (ik ino) = ptr n) (hn : NdAt w n x) (hxd : x.data = .slice a L cap) (hown : w.ownsRow base 5 1 (.slice a L cap) L xs) (hbase : base ≤ w.heap.size)
    (hL : L ≤ 16777216) (hk0 : 0 < k) (hk : k ≤ 16777216) (hbk : bs.length = k) (_hcap : k ≤ bcap) (hc : ∀ j, j < k → w.cell? ⟨bb, o + j, none⟩ = some (.int .u8 ((bs[j]?.getD 0).toNat : Int))) (hbb : (Value.slice a L cap).ownBlock ≠ some bb) (hbn : bb ≠ n) :
    Calls Tryz.prog 141 #[.pointer (some ⟨t, 0, none⟩), .int .i64 ino, .int .i64 L, .slice (some ⟨bb, o, none⟩) k bcap, .int .i64 now] w fun e w' => (∃ v, e = .returned v) ∧ ∃ v', NdAt w' n { x with data := v', tick := now } ∧ w'.ownsRow base 5 1 v' (L + k) (xs ++ u8s bs) ∧ Turn (n :: (Value.slice a L cap).ownBlock.toList) w w' ∧ (v'.ownBlock = (Value.slice a L cap).ownBlock ∨ ∃ g, v'.ownBlock = some g ∧ w.heap.size ≤ g) := by
  have hxl : xs.length = L := by simpa using hown.1
  have hrl := lookI hF hi
  rw [hlk] at hrl
  have t1 := hT.c1
  have d6 := hn.c6
  rw [hxd] at d6
  have f6 := hn.fz 6
  have hnlt := hn.lt
  have hnrow : (Value.slice a L cap).ownBlock ≠ some n := row_ne hown hn (by decide)
  obtain ⟨v2, w2, hrun, hown2, hgrow, hloc⟩ := run_zeros w base (.slice a L cap) L xs k hown hk0 (by omega) hbase
  have hn2 : NdAt w2 n x := (hgrow.block n hnlt (fun e => hnrow e.symm)).trans hn
  obtain ⟨g, cap2, cur, rfl, hbg, hg, hcap2, hcm, hcs, htk⟩ := row_shape hown2 (by omega)
  have hgn : g ≠ n := fun e => by rw [e, show w2.heap[n]? = _ from hn2] at hg; cases hg
  have hc2 : ∀ j, j < k → w2.cell? ⟨bb, o + j, none⟩ = some (.int .u8 ((bs[j]?.getD 0).toNat : Int)) := fun j hj => hgrow.cell (hc j hj) (fun e => hbb e.symm)
  -- the world behind the store of the slice
  obtain ⟨w3, hw3⟩ : ∃ w3, w3 = w2.setCell ⟨n, 6, none⟩ (.slice (some ⟨g, 0, none⟩) (L + k) cap2) := ⟨_, rfl⟩
  have hn3 : NdAt w3 n { x with data := .slice (some ⟨g, 0, none⟩) (L + k) cap2 } := by rw [hw3]; exact hn2.set 6 _ (by simp [Nd.arr])
  have hg3 : w3.heap[g]? = some (.cells cur 5 (0, 0)) := by rw [hw3, Below.heap_setCell _ _ _ _ (by simpa using hgn)]; exact hg
  have hc3 : ∀ j v, (u8s bs)[j]? = some v → w3.cell? ((⟨bb, o, none⟩ : Addr).add j) = some v := fun j v hv => by
    have hj : j < k := by have := (List.getElem?_eq_some_iff.1 hv).1; rw [u8s_length] at this; omega
    rw [Addr.add_lit, hw3, World.cell?_setCell_far _ _ _ _ (by simpa using fun e => hbn e.symm), hc2 j hj, ← hv]
    simp [u8s, show j < bs.length by omega]
  have hul := u8s_length bs
  obtain ⟨cs4, hcs4⟩ : ∃ cs4, cs4 = (cur.toList.take L ++ u8s bs ++ cur.toList.drop (L + (u8s bs).length)).toArray := ⟨_, rfl⟩
  have hcopy := run_copy_row (P := Tryz.prog) w3 33 33 3 5 g L k (cap2 - L) ⟨bb, o, none⟩ k bcap cur 5 (u8s bs) Tryz.underlying33 infosz5 hg3 (by rw [hul, hbk]; simp) hc3 (by rw [hul]; omega) (u8s_one bs)
  rw [← hcs4] at hcopy
  have hg4 : (w3.setRow g cs4).heap[g]? = some (.cells cs4 5 (0, 0)) := setRow_heap w3 g cur _ 5 _ hg3
  have hn4 : NdAt (w3.setRow g cs4) n { x with data := .slice (some ⟨g, 0, none⟩) (L + k) cap2 } := (setRow_other w3 g n _ (fun e => hgn e.symm)).trans hn3
  have e4 := hn4.c2
  have z4 := hn4.fz 2
  have e3 := hn3.c6
  have e2 := hn2.c6
  have z2 := hn2.fz 6
  have b1 : ¬ ((L : Int) < 0) := by omega
  have b2 : ¬ ((16777216 : Int) < (L : Int)) := by omega
  have b3 : ((k : Int) == 0) = false := by simp; omega
  have b4 : ((L : Int) + (k : Int) - (L : Int)) = (k : Int) := by omega
  have b5 : ¬ cap2 = L := by omega
  have HH := Lib.hid (And.intro hw3 (And.intro hcs4 (And.intro hg4 (And.intro hn4 (And.intro hgrow (And.intro hloc htk))))))
  clear hT hF hn hown hn2 hn3 hg3 hc2 hc hc3 hg4 hn4 hgrow hloc hcs4 hxd htk hown2 hg
  rw [hw3] at e3 e4 z4 hcopy
  clear hw3
  go_enter Tryz.func141, Tryz.ntmps141
  go_wp2_with (at_builtin; refine wpList_zeros w rfl _ _ rfl (.slice a L cap) k rfl rfl _ _ hrun ?_)
  obtain ⟨hw3, hcs4, hg4, hn4, hgrow, hloc, htk⟩ := HH.out
  rw [hw3] at hg4 hn4
  go_end0
  have hn5 := hn4.set 2 (.int .i64 now) (y := { x with data := .slice (some ⟨g, 0, none⟩) (L + k) cap2, tick := now }) (by simp [Nd.arr])
  have hg5 : (((w2.setCell ⟨n, 6, none⟩ (.slice (some ⟨g, 0, none⟩) (L + k) cap2)).setRow g cs4).setCell ⟨n, 2, none⟩ (.int .i64 now)).heap[g]? = some (.cells cs4 5 (0, 0)) := by rw [Below.heap_setCell _ _ _ _ (by simpa using hgn)]; exact hg4
  have htL : cur.toList.take L = xs := by
    have h1 : (cur.toList.take (L + k)).take L = (xs ++ noughts k).take L := by rw [htk]
    rw [List.take_take, Nat.min_eq_left (by omega)] at h1
    rw [h1, ← hxl]
    exact List.take_left
  refine ⟨⟨_, rfl⟩, _, hn5, ⟨by rw [List.length_append, hul]; omega, .inr ⟨g, cap2, cs4, rfl, hbg, hg5, by omega, hcm, ?_, ?_⟩⟩, ?_, hloc⟩
  · rw [hcs4]
    simp only [List.size_toArray, List.length_append, List.length_take, List.length_drop, Array.length_toList, hul]
    omega
  · rw [hcs4, htL]
    have : (L + k) * 1 = (xs ++ u8s bs).length := by rw [List.length_append, hul]; omega
    rw [this]
    exact List.take_left
  · refine ⟨hgrow.os, hgrow.tape, hgrow.output, ?_, fun j hj hs => ?_⟩
    · have := hgrow.size
      simpa [World.setCell, World.setRow] using this
    · simp only [List.mem_cons, not_or] at hs
      have hjo : (Value.slice a L cap).ownBlock ≠ some j := fun e => hs.2 (by rw [e]; simp)
      have hjg : j ≠ g := fun e => by
        rcases hloc with h | ⟨g', h, h2⟩
        · exact hjo (by rw [← h, e]; rfl)
        · have : g = g' := by simpa [Value.ownBlock] using h
          omega
      rw [Below.heap_setCell _ _ _ _ (by simpa using hs.1), setRow_other _ _ _ _ hjg, Below.heap_setCell _ _ _ _ (by simpa using hs.1)]
      exact hgrow.block j hj (fun e => hjo e.symm)

set_option maxRecDepth 100000 in
set_option maxHeartbeats 4000000 in
theorem write_none (t n fb N : Nat) (F : DataW Value) (ino now : Int) (L bcap : Nat) (a : Option Addr) (r nm la : Value) (w : World)
    (hT : TrAt w t r (.map (some fb)) nm la) (hF : w.ownsMap Tryz.prog 3 R fb N F) (hi : (Lit.int .i64 ino).wf = true) (hlk : look F (ik ino) = ptr n) (hL : L ≤ 16777216) :
    Calls Tryz.prog 141 #[.pointer (some ⟨t, 0, none⟩), .int .i64 ino, .int .i64 L, .slice a 0 bcap, .int .i64 now] w fun e w' => (∃ v, e = .returned v) ∧ w' = w := by
  have hrl := lookI hF hi
  rw [hlk] at hrl
  have t1 := hT.c1
  have b1 : ¬ ((L : Int) < 0) := by omega
  have b2 : ¬ ((16777216 : Int) < (L : Int)) := by omega
  clear hT hF
  go_enter Tryz.func141, Tryz.ntmps141
  go_wp2
  refine bodyPost_ret (results_none rfl _ _ _) rfl ?_
  exact ⟨⟨_, rfl⟩, rfl⟩

set_option maxHeartbeats 1000000 in
theorem hold_c (t n fb N : Nat) (F : DataW Value) (ino : Int) (x : Nd) (r nm la : Value) (w : World)
    (hT : TrAt w t r (.map (some fb)) nm la) (hF : w.ownsMap Tryz.prog 3 R fb N F) (hi : (Lit.int .i64 ino).wf = true) (hlk : look F (ik ino) = ptr n) (hn : NdAt w n x) (h0 : 0 ≤ x.holds) (h1 : x.holds < 4611686018427387904) :
    Calls Tryz.prog 108 #[.pointer (some ⟨t, 0, none⟩), .int .i64 ino] w fun e w' => (∃ v, e = .returned v) ∧ NdAt w' n { x with holds := x.holds + 1 } ∧ Turn [n] w w' := by
  have hrl := lookI hF hi
  rw [hlk] at hrl
  have t1 := hT.c1
  have e8 := hn.c8
  have z8 := hn.fz 8
  have HN := Lib.hid hn
  clear hT hF hn
  go_enter Tryz.func108, Tryz.ntmps108
  go_wp2
  go_end0
  exact ⟨⟨_, rfl⟩, HN.out.set 8 _ (by simp [Nd.arr]), Turn.set _ _ _ _ (by simp)⟩

set_option maxHeartbeats 1000000 in
theorem size_c (t n fb N : Nat) (F : DataW Value) (ino : Int) (x : Nd) (a : Option Addr) (L cap : Nat) (r nm la : Value) (w : World)
    (hT : TrAt w t r (.map (some fb)) nm la) (hF : w.ownsMap Tryz.prog 3 R fb N F) (hi : (Lit.int .i64 ino).wf = true) (hlk : look F (ik ino) = ptr n) (hn : NdAt w n x) (hd : x.data = .slice a L cap) :
    Calls Tryz.prog 169 #[.pointer (some ⟨t, 0, none⟩), .int .i64 ino] w fun e w' => e = .returned (.int .i64 L) ∧ w' = w := by
  have hrl := lookI hF hi
  rw [hlk] at hrl
  have t1 := hT.c1
  have e6 := hn.c6
  rw [hd] at e6
  clear hT hF hn
  go_enter Tryz.func169, Tryz.ntmps169
  go_wp2
  go_ret
  exact ⟨rfl, rfl⟩
set_option maxHeartbeats 1000000 in
theorem size_none (t fb N : Nat) (F : DataW Value) (ino : Int) (r nm la : Value) (w : World)
    (hT : TrAt w t r (.map (some fb)) nm la) (hF : w.ownsMap Tryz.prog 3 R fb N F) (hi : (Lit.int .i64 ino).wf = true) (hlk : look F (ik ino) = .pointer none) :
    Calls Tryz.prog 169 #[.pointer (some ⟨t, 0, none⟩), .int .i64 ino] w fun e w' => e = .returned (.int .i64 0) ∧ w' = w := by
  have hrl := lookI hF hi
  rw [hlk] at hrl
  have t1 := hT.c1
  clear hT hF
  go_enter Tryz.func169, Tryz.ntmps169
  go_wp2
  go_ret
  exact ⟨rfl, rfl⟩
set_option maxHeartbeats 1000000 in
theorem files_c (t fb N : Nat) (F : DataW Value) (r nm la : Value) (w : World) (hT : TrAt w t r (.map (some fb)) nm la) (hF : w.ownsMap Tryz.prog 3 R fb N F) :
    Calls Tryz.prog 42 #[.pointer (some ⟨t, 0, none⟩)] w fun e w' => e = .returned (.int .i64 (Maps.size F)) ∧ w' = w := by
  have hlen := hF.len under62 3
  have t1 := hT.c1
  clear hT hF
  go_enter Tryz.func42, Tryz.ntmps42
  go_wp2
  go_ret
  exact ⟨rfl, rfl⟩
end Go.Proofs.YtblaikdpnngkhaaGreatDoor
