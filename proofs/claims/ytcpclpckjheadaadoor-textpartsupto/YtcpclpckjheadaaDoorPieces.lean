/- The contract of the program's iterator over the pieces of bytes. -/
import Derived.RangeFuncBox
import Derived.RangeFuncNested
import Derived.RangeFuncLeaves
import Derived.Shelf.Abstract
import Derived.WalkKit
import Derived.OwnWalkIn
import Derived.TacticsInMore
import Derived.LoopNIn
import Derived.LoopIn
import Derived.Maps.AppendAt
import Derived.Lib.Hide
import Derived.Test.YtcpclpckjheadaaDoorProg
import Derived.Test.YtcpclpckjheadaaDoorCutMath
namespace Go.Proofs.YtcpclpckjheadaaDoor
open Go.RowKit Go.Shelf

attribute [local go_sem] Oper.semAt_some

/-- A slice of bytes that holds l, in a block below n₀; or it is nil and l is empty. -/
def BytesAt (n₀ : Nat) (W : World) (v : Value) (l : List UInt8) : Prop :=
  (v = .slice none 0 0 ∧ l = []) ∨ ∃ b off cap, v = .slice (some ⟨b, off, none⟩) l.length cap ∧ (l.length ≤ cap ∧ l.length ≤ 140737488355328 ∧ cap ≤ 9223372036854775807) ∧ b < n₀ ∧ ∀ j, j < l.length → W.cell? ⟨b, off + j, none⟩ = some (.int .u8 ((l[j]?.getD 0).toNat : Int))
theorem BytesAt.below {n₀ : Nat} {A B : World} (h : Below n₀ A B) {v : Value} {l : List UInt8} : BytesAt n₀ A v l → BytesAt n₀ B v l
  | .inl e => .inl e
  | .inr ⟨b, off, cap, e, hcap, hb, hc⟩ => .inr ⟨b, off, cap, e, hcap, hb, fun j hj => (h.cell (p := ⟨b, off + j, none⟩) hb).trans (hc j hj)⟩

/-- A piece as the iterator hands it on: a slice value, whether it was ended, what it holds in the world w₀. -/
structure Piece (n₀ : Nat) (w₀ : World) : Type where
  v : Value
  ended : Bool
  bytes : List UInt8
  ok : BytesAt n₀ w₀ v bytes
def Piece.encs {n₀ : Nat} {w₀ : World} (x : Piece n₀ w₀) : Array Value := #[x.v, .bool x.ended]
def Piece.told {n₀ : Nat} {w₀ : World} (x : Piece n₀ w₀) : List UInt8 × Bool := (x.bytes, x.ended)

theorem isFeed_in (F : Fence) (n : Nat) (h24 : F.fn 24) (hro : F.round = none) (x : Int) (w : World) :
    CallsIn F n Tryd.prog 24 #[.int .u8 x] w fun e w' => e = .returned (.bool (x == 10)) ∧ w' = w := by
  refine callsIn_of_wp Tryd.func24 rfl h24 ?_ hro
  simp only [Tryd.ntmps24, List.size_toArray, List.length_cons, List.length_nil, Nat.reduceAdd, Nat.reduceSub, Array.replicate_succ, Array.replicate_zero, List.push_toArray, List.append_toArray, List.nil_append, List.cons_append]
  gi_wp2
  go_ret
  exact ⟨rfl, rfl⟩
theorem isBlank_in (F : Fence) (n : Nat) (h26 : F.fn 26) (hro : F.round = none) (x : Int) (w : World) :
    CallsIn F n Tryd.prog 26 #[.int .u8 x] w fun e w' => e = .returned (.bool (x == 32 || x == 9)) ∧ w' = w := by
  by_cases h : (x == 32) = true
  · refine callsIn_of_wp Tryd.func26 rfl h26 ?_ hro
    simp only [Tryd.ntmps26, List.size_toArray, List.length_cons, List.length_nil, Nat.reduceAdd, Nat.reduceSub, Array.replicate_succ, Array.replicate_zero, List.push_toArray, List.append_toArray, List.nil_append, List.cons_append]
    gi_wp2
    go_ret
    exact ⟨by simp [h], rfl⟩
  · have h' : (x == 32) = false := by simpa using h
    clear h
    refine callsIn_of_wp Tryd.func26 rfl h26 ?_ hro
    simp only [Tryd.ntmps26, List.size_toArray, List.length_cons, List.length_nil, Nat.reduceAdd, Nat.reduceSub, Array.replicate_succ, Array.replicate_zero, List.push_toArray, List.append_toArray, List.nil_append, List.cons_append]
    gi_wp2
    go_ret
    exact ⟨by simp [h'], rfl⟩

/-- What a round that goes on keeps: all below n₀, and the iterator's two boxes. -/
def Keeps (n₀ B : Nat) (W W' : World) : Prop := Below n₀ W W' ∧ W'.heap[B]? = W.heap[B]? ∧ W'.heap[B + 1]? = W.heap[B + 1]?
theorem Keeps.refl (n₀ B : Nat) (W : World) : Keeps n₀ B W W := ⟨Below.refl _ _, rfl, rfl⟩
theorem Keeps.trans {n₀ B : Nat} {X Y Z : World} (h : Keeps n₀ B X Y) (k : Keeps n₀ B Y Z) : Keeps n₀ B X Z := ⟨h.1.trans k.1, k.2.1.trans h.2.1, k.2.2.trans h.2.2⟩

set_option maxHeartbeats 1000000 in
theorem pieces_in (F : Fence) (n : Nat) (h23 : F.fn 23) (hro : F.round = none) (a : Option Addr) (len cap g : Nat) (w : World) :
    CallsIn F n Tryd.prog 23 #[.slice a len cap, .func (.func g) #[] #[]] w fun e w' => e = .returned (.func (.func 31) #[] #[.pointer (some ⟨w.heap.size, 0, none⟩), .pointer (some ⟨w.heap.size + 1, 0, none⟩)]) ∧ w' = (w.alloc (.cells #[.slice a len cap] 22)).alloc (.cells #[.func (.func g) #[] #[]] 40) := by
  refine callsIn_of_wp Tryd.func23 rfl h23 ?_ hro
  simp only [Tryd.ntmps23, List.size_toArray, List.length_cons, List.length_nil, Nat.reduceAdd, Nat.reduceSub, Array.replicate_succ, Array.replicate_zero, List.push_toArray, List.append_toArray, List.nil_append, List.cons_append]
  gi_wp2
  go_ret
  exact ⟨rfl, rfl⟩

set_option maxRecDepth 100000 in
set_option maxHeartbeats 2000000 in
theorem feed1_in (F : Fence) (n : Nat) (h31 : F.fn 31) (hg : F.fn 24) (hro : F.round = none) (hn : 2 ≤ n) (l Bb Bc n₀ b off cap : Nat) (bs : List UInt8) (hlen : bs.length ≤ cap) (hlen2 : bs.length ≤ 140737488355328) (hreach : cap ≤ 9223372036854775807) (hb : b < n₀) (hBc : Bc = Bb + 1) (w₀ W : World) (J Jx : List (Piece n₀ w₀) → World → Prop)
    (hY : ∀ pre x W, J pre W → pre.length < bs.length + 1 → YieldAt F (n - 1) Tryd.prog l x.encs W fun e W' =>
      (e = .returned (.bool true) ∧ J (pre ++ [x]) W' ∧ Keeps n₀ Bb W W') ∨ (e = .returned (.bool false) ∧ Jx (pre ++ [x]) W'))
    (hW0 : Below n₀ w₀ W) (hcb : W.cell? ⟨Bb, 0, none⟩ = some (.slice (some ⟨b, off, none⟩) bs.length cap)) (hcc : W.cell? ⟨Bc, 0, none⟩ = some (.func (.func 24) #[] #[])) (hc : ∀ j, j < bs.length → W.cell? ⟨b, off + j, none⟩ = some (.int .u8 ((bs[j]?.getD 0).toNat : Int))) (h0 : J [] W) :
    CallsIn F n Tryd.prog 31 #[.func (.yield l) #[] #[], .pointer (some ⟨Bb, 0, none⟩), .pointer (some ⟨Bc, 0, none⟩)] W fun e W' => (∃ v, e = .returned v) ∧
      ((∃ ys, ys.map Piece.told = pcs feedB bs ∧ J ys W') ∨ (∃ pre, True ∧ Jx pre W')) := by
  refine callsIn_of_wp Tryd.func31 rfl h31 ?_ hro
  simp only [Tryd.ntmps31, List.size_toArray, List.length_cons, List.length_nil, Nat.reduceAdd, Nat.reduceSub, Array.replicate_succ, Array.replicate_zero, List.push_toArray, List.append_toArray, List.nil_append, List.cons_append]
  gi_wp2
  gi_loopw [4, 9] (fun bg i wr => ∃ (k s : Nat) (ys : List (Piece n₀ w₀)), k ≤ bs.length ∧ s ≤ k ∧ i = .int .i64 k ∧ bg = .int .i64 s ∧ ys.length ≤ k ∧ Hid (ys.map Piece.told = (cutTo feedB bs k).2.map (fun p => (p, true))) ∧ Hid (s = (cutTo feedB bs k).1) ∧ J ys wr ∧ Keeps n₀ Bb W wr) (fun _ i _ => bs.length - (intOf i).toNat)
  case atStart => exact ⟨0, 0, [], Nat.zero_le _, Nat.le_refl _, rfl, rfl, Nat.le_refl _, rfl, rfl, h0, Keeps.refl _ _ _⟩
  case round =>
    obtain ⟨k, s, ys, hk, hsk, rfl, rfl, hyl, HY, HS, hJs, hnx⟩ := hrel
    have hcb' : wr.cell? ⟨Bb, 0, none⟩ = some (.slice (some ⟨b, off, none⟩) bs.length cap) := (World.cell?_of_block (w := W) hnx.2.1).trans hcb
    have hcc' : wr.cell? ⟨Bc, 0, none⟩ = some (.func (.func 24) #[] #[]) := (World.cell?_of_block (w := W) (by rw [hBc]; exact hnx.2.2)).trans hcc
    have HBc := Lib.hid hBc
    clear hBc
    by_cases hlt : k < bs.length
    · obtain ⟨x, HX⟩ : ∃ x : UInt8, Hid (bs[k]?.getD 0 = x) := ⟨_, rfl⟩
      have hcx : wr.cell? ⟨b, off + k, none⟩ = some (.int .u8 (x.toNat : Int)) := by rw [← HX.out]; exact (hnx.1.cell (p := ⟨b, off + k, none⟩) hb).trans (hc k hlt)
      have h1 : 1 ≤ n := by omega
      by_cases hcut : feedB x = true
      · have hcutx : ((x.toNat : Int) == 10) = true := hcut
        have HC := Lib.hid (show cutTo feedB bs (k + 1) = (k + 1, (cutTo feedB bs k).2 ++ [(bs.take k).drop (cutTo feedB bs k).1]) from cutTo_yes (by rw [HX.out]; exact hcut))
        have hbx : BytesAt n₀ w₀ (.slice (some ⟨b, off + s, none⟩) (k - s) (cap - s)) ((bs.take k).drop s) := by
          refine .inr ⟨b, off + s, cap - s, by rw [mid_length bs s k hk], by rw [mid_length bs s k hk]; omega, hb, fun j hj => ?_⟩
          have hj' := hj
          rw [mid_length bs s k hk] at hj'
          rw [mid_at bs s k j hk hj, Nat.add_assoc, ← hW0.cell (p := ⟨b, off + (s + j), none⟩) hb]
          exact hc (s + j) (by omega)
        obtain ⟨px, hpe, HPT⟩ : ∃ px : Piece n₀ w₀, px.encs = #[.slice (some ⟨b, off + s, none⟩) (k - s) (cap - s), .bool true] ∧ Hid (px.told = ((bs.take k).drop s, true)) := ⟨⟨.slice (some ⟨b, off + s, none⟩) (k - s) (cap - s), true, (bs.take k).drop s, hbx⟩, rfl, rfl⟩
        obtain ⟨fn, tmps, assign, body, hy, hR⟩ := hY ys px wr hJs (by omega)
        rw [hpe] at hy
        have hcs : ¬ cap = s := by omega
        clear hcut hbx hcc hcb hpe
        have HCC := Lib.hid hc
        have HYY := Lib.hid hY
        clear hc hY
        gi_wp2_with (gi_at_call 24; refine (isFeed_in F _ hg hro _ _).mono ?_; rintro e w' ⟨rfl, rfl⟩)
        refine hR.mono ?_
        rintro e W3 (⟨rfl, hJ3, hk3⟩ | ⟨rfl, hJx3⟩)
        · gi_wp2
          go_roundw
          case rel => exact ⟨k + 1, k + 1, ys ++ [px], by omega, by omega, by go_num, by go_num, by simp; omega, by show _ = _; rw [HC.out, List.map_append, List.map_append, HY.out, List.map_cons, List.map_nil, HPT.out, ← HS.out]; rfl, by show _ = _; rw [HC.out], hJ3, hnx.trans hk3⟩
          case measure => simp [intOf]; omega
        · gi_wp2
          refine bodyPost_ret (results_none rfl _ _ _) rfl ?_
          exact ⟨⟨_, rfl⟩, .inr ⟨_, trivial, hJx3⟩⟩
      · have hcut' : feedB x = false := by simpa using hcut
        have hcutx : ((x.toNat : Int) == 10) = false := hcut'
        have HC := Lib.hid (show cutTo feedB bs (k + 1) = cutTo feedB bs k from cutTo_no (by rw [HX.out]; exact hcut'))
        clear hcut hcut' hc hcc hcb hY
        gi_wp2_with (gi_at_call 24; refine (isFeed_in F _ hg hro _ _).mono ?_; rintro e w' ⟨rfl, rfl⟩)
        go_roundw
        case rel => exact ⟨k + 1, s, ys, by omega, by omega, by go_num, rfl, by omega, by show _ = _; rw [HC.out]; exact HY.out, by show _ = _; rw [HC.out]; exact HS.out, hJs, hnx⟩
        case measure => simp [intOf]; omega
    · obtain rfl : k = bs.length := by omega
      have h1 : 1 ≤ n := by omega
      have HE : Hid (∀ px : Piece n₀ w₀, px.told = (bs.drop s, false) → (ys ++ [px]).map Piece.told = pcs feedB bs) := fun px hp => by rw [List.map_append, HY.out, List.map_cons, List.map_nil, hp, HS.out]; rfl
      by_cases hcs : cap = s
      · have hz : bs.length - s = 0 := by omega
        have hbx : BytesAt n₀ w₀ (.slice (some ⟨b, off, none⟩) 0 0) (bs.drop s) := .inr ⟨b, off, 0, by rw [List.length_drop, hz], by rw [List.length_drop, hz]; omega, hb, fun j hj => by rw [List.length_drop, hz] at hj; omega⟩
        obtain ⟨px, hpe, HPT⟩ : ∃ px : Piece n₀ w₀, px.encs = #[.slice (some ⟨b, off, none⟩) 0 0, .bool false] ∧ Hid (px.told = (bs.drop s, false)) := ⟨⟨.slice (some ⟨b, off, none⟩) 0 0, false, bs.drop s, hbx⟩, rfl, rfl⟩
        obtain ⟨fn, tmps, assign, body, hy, hR⟩ := hY ys px wr hJs (by omega)
        rw [hpe] at hy
        clear hbx hcc hcb hpe hc hY
        gi_wp2
        refine hR.mono ?_
        rintro e W3 (⟨rfl, hJ3, hk3⟩ | ⟨rfl, hJx3⟩)
        · gi_wp2
          go_end0
          exact ⟨⟨_, rfl⟩, .inl ⟨_, HE.out px HPT.out, hJ3⟩⟩
        · gi_wp2
          go_end0
          exact ⟨⟨_, rfl⟩, .inr ⟨_, trivial, hJx3⟩⟩
      · have hbx : BytesAt n₀ w₀ (.slice (some ⟨b, off + s, none⟩) (bs.length - s) (cap - s)) (bs.drop s) := by
          refine .inr ⟨b, off + s, cap - s, by rw [List.length_drop], by rw [List.length_drop]; omega, hb, fun j hj => ?_⟩
          rw [List.length_drop] at hj
          rw [end_at bs s j, Nat.add_assoc, ← hW0.cell (p := ⟨b, off + (s + j), none⟩) hb]
          exact hc (s + j) (by omega)
        obtain ⟨px, hpe, HPT⟩ : ∃ px : Piece n₀ w₀, px.encs = #[.slice (some ⟨b, off + s, none⟩) (bs.length - s) (cap - s), .bool false] ∧ Hid (px.told = (bs.drop s, false)) := ⟨⟨.slice (some ⟨b, off + s, none⟩) (bs.length - s) (cap - s), false, bs.drop s, hbx⟩, rfl, rfl⟩
        obtain ⟨fn, tmps, assign, body, hy, hR⟩ := hY ys px wr hJs (by omega)
        rw [hpe] at hy
        clear hbx hcc hcb hpe hc hY
        gi_wp2
        refine hR.mono ?_
        rintro e W3 (⟨rfl, hJ3, hk3⟩ | ⟨rfl, hJx3⟩)
        · gi_wp2
          go_end0
          exact ⟨⟨_, rfl⟩, .inl ⟨_, HE.out px HPT.out, hJ3⟩⟩
        · gi_wp2
          go_end0
          exact ⟨⟨_, rfl⟩, .inr ⟨_, trivial, hJx3⟩⟩

set_option maxRecDepth 100000 in
set_option maxHeartbeats 2000000 in
theorem feed1_nil_in (F : Fence) (n : Nat) (h31 : F.fn 31) (hro : F.round = none) (hn : 2 ≤ n) (l Bb Bc n₀ : Nat) (w₀ W : World) (J Jx : List (Piece n₀ w₀) → World → Prop)
    (hY : ∀ pre x W, J pre W → pre.length < ([] : List UInt8).length + 1 → YieldAt F (n - 1) Tryd.prog l x.encs W fun e W' =>
      (e = .returned (.bool true) ∧ J (pre ++ [x]) W' ∧ Keeps n₀ Bb W W') ∨ (e = .returned (.bool false) ∧ Jx (pre ++ [x]) W'))
    (hcb : W.cell? ⟨Bb, 0, none⟩ = some (.slice none 0 0)) (h0 : J [] W) :
    CallsIn F n Tryd.prog 31 #[.func (.yield l) #[] #[], .pointer (some ⟨Bb, 0, none⟩), .pointer (some ⟨Bc, 0, none⟩)] W fun e W' => (∃ v, e = .returned v) ∧
      ((∃ ys, ys.map Piece.told = pcs feedB [] ∧ J ys W') ∨ (∃ pre, True ∧ Jx pre W')) := by
  have h1 : 1 ≤ n := by omega
  refine callsIn_of_wp Tryd.func31 rfl h31 ?_ hro
  simp only [Tryd.ntmps31, List.size_toArray, List.length_cons, List.length_nil, Nat.reduceAdd, Nat.reduceSub, Array.replicate_succ, Array.replicate_zero, List.push_toArray, List.append_toArray, List.nil_append, List.cons_append]
  gi_wp2
  gi_loopw [4, 9] (fun bg i wr => i = .int .i64 0 ∧ bg = .int .i64 0 ∧ wr = W) (fun _ _ _ => 0)
  case atStart => exact ⟨rfl, rfl, rfl⟩
  case round =>
    obtain ⟨rfl, rfl, rfl⟩ := hrel
    obtain ⟨px, hpe, HPT⟩ : ∃ px : Piece n₀ w₀, px.encs = #[.slice none 0 0, .bool false] ∧ Hid (px.told = ([], false)) := ⟨⟨.slice none 0 0, false, [], .inl ⟨rfl, rfl⟩⟩, rfl, rfl⟩
    obtain ⟨fn, tmps, assign, body, hy, hR⟩ := hY [] px wr h0 (by simp)
    rw [hpe] at hy
    clear hpe hY
    gi_wp2
    refine hR.mono ?_
    rintro e W3 (⟨rfl, hJ3, hk3⟩ | ⟨rfl, hJx3⟩)
    · gi_wp2
      go_end0
      exact ⟨⟨_, rfl⟩, .inl ⟨[px], by rw [List.map_cons, HPT.out]; rfl, hJ3⟩⟩
    · gi_wp2
      go_end0
      exact ⟨⟨_, rfl⟩, .inr ⟨_, trivial, hJx3⟩⟩

/-- The iterator's contract: every piece in order. -/
theorem feed_stops (F : Fence) (n : Nat) (h31 : F.fn 31) (hg : F.fn 24) (hro : F.round = none) (hn : 2 ≤ n) (Bb Bc n₀ : Nat) (v : Value) (bs : List UInt8) (w : World) (hBb : Bb + 1 < w.heap.size) (hBc : Bc = Bb + 1) (hn₀ : n₀ ≤ w.heap.size)
    (hcb : w.cell? ⟨Bb, 0, none⟩ = some v) (hcc : w.cell? ⟨Bc, 0, none⟩ = some (.func (.func 24) #[] #[])) (hI : BytesAt n₀ w v bs) :
    SeqStopsK F n Tryd.prog 31 #[.pointer (some ⟨Bb, 0, none⟩), .pointer (some ⟨Bc, 0, none⟩)] (Piece.encs (n₀ := n₀) (w₀ := w)) (Keeps n₀ Bb) (fun ys => ys.map Piece.told = pcs feedB bs) (fun _ => True) (bs.length + 1) w := fun l J Jx W hW _ _ hY h0 => by
  have hW' : Below n₀ w W := hW.mono hn₀
  have hcb' := (hW.cell (p := ⟨Bb, 0, none⟩) (show Bb < w.heap.size by omega)).trans hcb
  have hcc' := (hW.cell (p := ⟨Bc, 0, none⟩) (show Bc < w.heap.size by omega)).trans hcc
  rcases hI.below hW' with ⟨rfl, rfl⟩ | ⟨b, off, cap, rfl, ⟨hlen, hlen2, hcap⟩, hb, hcs⟩
  · exact feed1_nil_in F n h31 hro hn l Bb Bc n₀ w W J Jx hY hcb' h0
  · exact feed1_in F n h31 hg hro hn l Bb Bc n₀ b off cap bs hlen hlen2 hcap hb hBc w W J Jx hY hW' hcb' hcc' hcs h0

set_option maxRecDepth 100000 in
set_option maxHeartbeats 2000000 in
theorem blank1_in (F : Fence) (n : Nat) (h31 : F.fn 31) (hg : F.fn 26) (hro : F.round = none) (hn : 2 ≤ n) (l Bb Bc n₀ b off cap : Nat) (bs : List UInt8) (hlen : bs.length ≤ cap) (hlen2 : bs.length ≤ 140737488355328) (hreach : cap ≤ 9223372036854775807) (hb : b < n₀) (hBc : Bc = Bb + 1) (w₀ W : World) (J Jx : List (Piece n₀ w₀) → World → Prop)
    (hY : ∀ pre x W, J pre W → pre.length < bs.length + 1 → YieldAt F (n - 1) Tryd.prog l x.encs W fun e W' =>
      (e = .returned (.bool true) ∧ J (pre ++ [x]) W' ∧ Keeps n₀ Bb W W') ∨ (e = .returned (.bool false) ∧ Jx (pre ++ [x]) W'))
    (hW0 : Below n₀ w₀ W) (hcb : W.cell? ⟨Bb, 0, none⟩ = some (.slice (some ⟨b, off, none⟩) bs.length cap)) (hcc : W.cell? ⟨Bc, 0, none⟩ = some (.func (.func 26) #[] #[])) (hc : ∀ j, j < bs.length → W.cell? ⟨b, off + j, none⟩ = some (.int .u8 ((bs[j]?.getD 0).toNat : Int))) (h0 : J [] W) :
    CallsIn F n Tryd.prog 31 #[.func (.yield l) #[] #[], .pointer (some ⟨Bb, 0, none⟩), .pointer (some ⟨Bc, 0, none⟩)] W fun e W' => (∃ v, e = .returned v) ∧
      ((∃ ys, ys.map Piece.told = pcs blankB bs ∧ J ys W') ∨ (∃ pre, True ∧ Jx pre W')) := by
  refine callsIn_of_wp Tryd.func31 rfl h31 ?_ hro
  simp only [Tryd.ntmps31, List.size_toArray, List.length_cons, List.length_nil, Nat.reduceAdd, Nat.reduceSub, Array.replicate_succ, Array.replicate_zero, List.push_toArray, List.append_toArray, List.nil_append, List.cons_append]
  gi_wp2
  gi_loopw [4, 9] (fun bg i wr => ∃ (k s : Nat) (ys : List (Piece n₀ w₀)), k ≤ bs.length ∧ s ≤ k ∧ i = .int .i64 k ∧ bg = .int .i64 s ∧ ys.length ≤ k ∧ Hid (ys.map Piece.told = (cutTo blankB bs k).2.map (fun p => (p, true))) ∧ Hid (s = (cutTo blankB bs k).1) ∧ J ys wr ∧ Keeps n₀ Bb W wr) (fun _ i _ => bs.length - (intOf i).toNat)
  case atStart => exact ⟨0, 0, [], Nat.zero_le _, Nat.le_refl _, rfl, rfl, Nat.le_refl _, rfl, rfl, h0, Keeps.refl _ _ _⟩
  case round =>
    obtain ⟨k, s, ys, hk, hsk, rfl, rfl, hyl, HY, HS, hJs, hnx⟩ := hrel
    have hcb' : wr.cell? ⟨Bb, 0, none⟩ = some (.slice (some ⟨b, off, none⟩) bs.length cap) := (World.cell?_of_block (w := W) hnx.2.1).trans hcb
    have hcc' : wr.cell? ⟨Bc, 0, none⟩ = some (.func (.func 26) #[] #[]) := (World.cell?_of_block (w := W) (by rw [hBc]; exact hnx.2.2)).trans hcc
    have HBc := Lib.hid hBc
    clear hBc
    by_cases hlt : k < bs.length
    · obtain ⟨x, HX⟩ : ∃ x : UInt8, Hid (bs[k]?.getD 0 = x) := ⟨_, rfl⟩
      have hcx : wr.cell? ⟨b, off + k, none⟩ = some (.int .u8 (x.toNat : Int)) := by rw [← HX.out]; exact (hnx.1.cell (p := ⟨b, off + k, none⟩) hb).trans (hc k hlt)
      have h1 : 1 ≤ n := by omega
      by_cases hcut : blankB x = true
      · have hcutx : ((x.toNat : Int) == 32 || (x.toNat : Int) == 9) = true := hcut
        have HC := Lib.hid (show cutTo blankB bs (k + 1) = (k + 1, (cutTo blankB bs k).2 ++ [(bs.take k).drop (cutTo blankB bs k).1]) from cutTo_yes (by rw [HX.out]; exact hcut))
        have hbx : BytesAt n₀ w₀ (.slice (some ⟨b, off + s, none⟩) (k - s) (cap - s)) ((bs.take k).drop s) := by
          refine .inr ⟨b, off + s, cap - s, by rw [mid_length bs s k hk], by rw [mid_length bs s k hk]; omega, hb, fun j hj => ?_⟩
          have hj' := hj
          rw [mid_length bs s k hk] at hj'
          rw [mid_at bs s k j hk hj, Nat.add_assoc, ← hW0.cell (p := ⟨b, off + (s + j), none⟩) hb]
          exact hc (s + j) (by omega)
        obtain ⟨px, hpe, HPT⟩ : ∃ px : Piece n₀ w₀, px.encs = #[.slice (some ⟨b, off + s, none⟩) (k - s) (cap - s), .bool true] ∧ Hid (px.told = ((bs.take k).drop s, true)) := ⟨⟨.slice (some ⟨b, off + s, none⟩) (k - s) (cap - s), true, (bs.take k).drop s, hbx⟩, rfl, rfl⟩
        obtain ⟨fn, tmps, assign, body, hy, hR⟩ := hY ys px wr hJs (by omega)
        rw [hpe] at hy
        have hcs : ¬ cap = s := by omega
        clear hcut hbx hcc hcb hpe
        have HCC := Lib.hid hc
        have HYY := Lib.hid hY
        clear hc hY
        gi_wp2_with (gi_at_call 26; refine (isBlank_in F _ hg hro _ _).mono ?_; rintro e w' ⟨rfl, rfl⟩)
        refine hR.mono ?_
        rintro e W3 (⟨rfl, hJ3, hk3⟩ | ⟨rfl, hJx3⟩)
        · gi_wp2
          go_roundw
          case rel => exact ⟨k + 1, k + 1, ys ++ [px], by omega, by omega, by go_num, by go_num, by simp; omega, by show _ = _; rw [HC.out, List.map_append, List.map_append, HY.out, List.map_cons, List.map_nil, HPT.out, ← HS.out]; rfl, by show _ = _; rw [HC.out], hJ3, hnx.trans hk3⟩
          case measure => simp [intOf]; omega
        · gi_wp2
          refine bodyPost_ret (results_none rfl _ _ _) rfl ?_
          exact ⟨⟨_, rfl⟩, .inr ⟨_, trivial, hJx3⟩⟩
      · have hcut' : blankB x = false := by simpa using hcut
        have hcutx : ((x.toNat : Int) == 32 || (x.toNat : Int) == 9) = false := hcut'
        have HC := Lib.hid (show cutTo blankB bs (k + 1) = cutTo blankB bs k from cutTo_no (by rw [HX.out]; exact hcut'))
        clear hcut hcut' hc hcc hcb hY
        gi_wp2_with (gi_at_call 26; refine (isBlank_in F _ hg hro _ _).mono ?_; rintro e w' ⟨rfl, rfl⟩)
        go_roundw
        case rel => exact ⟨k + 1, s, ys, by omega, by omega, by go_num, rfl, by omega, by show _ = _; rw [HC.out]; exact HY.out, by show _ = _; rw [HC.out]; exact HS.out, hJs, hnx⟩
        case measure => simp [intOf]; omega
    · obtain rfl : k = bs.length := by omega
      have h1 : 1 ≤ n := by omega
      have HE : Hid (∀ px : Piece n₀ w₀, px.told = (bs.drop s, false) → (ys ++ [px]).map Piece.told = pcs blankB bs) := fun px hp => by rw [List.map_append, HY.out, List.map_cons, List.map_nil, hp, HS.out]; rfl
      by_cases hcs : cap = s
      · have hz : bs.length - s = 0 := by omega
        have hbx : BytesAt n₀ w₀ (.slice (some ⟨b, off, none⟩) 0 0) (bs.drop s) := .inr ⟨b, off, 0, by rw [List.length_drop, hz], by rw [List.length_drop, hz]; omega, hb, fun j hj => by rw [List.length_drop, hz] at hj; omega⟩
        obtain ⟨px, hpe, HPT⟩ : ∃ px : Piece n₀ w₀, px.encs = #[.slice (some ⟨b, off, none⟩) 0 0, .bool false] ∧ Hid (px.told = (bs.drop s, false)) := ⟨⟨.slice (some ⟨b, off, none⟩) 0 0, false, bs.drop s, hbx⟩, rfl, rfl⟩
        obtain ⟨fn, tmps, assign, body, hy, hR⟩ := hY ys px wr hJs (by omega)
        rw [hpe] at hy
        clear hbx hcc hcb hpe hc hY
        gi_wp2
        refine hR.mono ?_
        rintro e W3 (⟨rfl, hJ3, hk3⟩ | ⟨rfl, hJx3⟩)
        · gi_wp2
          go_end0
          exact ⟨⟨_, rfl⟩, .inl ⟨_, HE.out px HPT.out, hJ3⟩⟩
        · gi_wp2
          go_end0
          exact ⟨⟨_, rfl⟩, .inr ⟨_, trivial, hJx3⟩⟩
      · have hbx : BytesAt n₀ w₀ (.slice (some ⟨b, off + s, none⟩) (bs.length - s) (cap - s)) (bs.drop s) := by
          refine .inr ⟨b, off + s, cap - s, by rw [List.length_drop], by rw [List.length_drop]; omega, hb, fun j hj => ?_⟩
          rw [List.length_drop] at hj
          rw [end_at bs s j, Nat.add_assoc, ← hW0.cell (p := ⟨b, off + (s + j), none⟩) hb]
          exact hc (s + j) (by omega)
        obtain ⟨px, hpe, HPT⟩ : ∃ px : Piece n₀ w₀, px.encs = #[.slice (some ⟨b, off + s, none⟩) (bs.length - s) (cap - s), .bool false] ∧ Hid (px.told = (bs.drop s, false)) := ⟨⟨.slice (some ⟨b, off + s, none⟩) (bs.length - s) (cap - s), false, bs.drop s, hbx⟩, rfl, rfl⟩
        obtain ⟨fn, tmps, assign, body, hy, hR⟩ := hY ys px wr hJs (by omega)
        rw [hpe] at hy
        clear hbx hcc hcb hpe hc hY
        gi_wp2
        refine hR.mono ?_
        rintro e W3 (⟨rfl, hJ3, hk3⟩ | ⟨rfl, hJx3⟩)
        · gi_wp2
          go_end0
          exact ⟨⟨_, rfl⟩, .inl ⟨_, HE.out px HPT.out, hJ3⟩⟩
        · gi_wp2
          go_end0
          exact ⟨⟨_, rfl⟩, .inr ⟨_, trivial, hJx3⟩⟩

set_option maxRecDepth 100000 in
set_option maxHeartbeats 2000000 in
theorem blank1_nil_in (F : Fence) (n : Nat) (h31 : F.fn 31) (hro : F.round = none) (hn : 2 ≤ n) (l Bb Bc n₀ : Nat) (w₀ W : World) (J Jx : List (Piece n₀ w₀) → World → Prop)
    (hY : ∀ pre x W, J pre W → pre.length < ([] : List UInt8).length + 1 → YieldAt F (n - 1) Tryd.prog l x.encs W fun e W' =>
      (e = .returned (.bool true) ∧ J (pre ++ [x]) W' ∧ Keeps n₀ Bb W W') ∨ (e = .returned (.bool false) ∧ Jx (pre ++ [x]) W'))
    (hcb : W.cell? ⟨Bb, 0, none⟩ = some (.slice none 0 0)) (h0 : J [] W) :
    CallsIn F n Tryd.prog 31 #[.func (.yield l) #[] #[], .pointer (some ⟨Bb, 0, none⟩), .pointer (some ⟨Bc, 0, none⟩)] W fun e W' => (∃ v, e = .returned v) ∧
      ((∃ ys, ys.map Piece.told = pcs blankB [] ∧ J ys W') ∨ (∃ pre, True ∧ Jx pre W')) := by
  have h1 : 1 ≤ n := by omega
  refine callsIn_of_wp Tryd.func31 rfl h31 ?_ hro
  simp only [Tryd.ntmps31, List.size_toArray, List.length_cons, List.length_nil, Nat.reduceAdd, Nat.reduceSub, Array.replicate_succ, Array.replicate_zero, List.push_toArray, List.append_toArray, List.nil_append, List.cons_append]
  gi_wp2
  gi_loopw [4, 9] (fun bg i wr => i = .int .i64 0 ∧ bg = .int .i64 0 ∧ wr = W) (fun _ _ _ => 0)
  case atStart => exact ⟨rfl, rfl, rfl⟩
  case round =>
    obtain ⟨rfl, rfl, rfl⟩ := hrel
    obtain ⟨px, hpe, HPT⟩ : ∃ px : Piece n₀ w₀, px.encs = #[.slice none 0 0, .bool false] ∧ Hid (px.told = ([], false)) := ⟨⟨.slice none 0 0, false, [], .inl ⟨rfl, rfl⟩⟩, rfl, rfl⟩
    obtain ⟨fn, tmps, assign, body, hy, hR⟩ := hY [] px wr h0 (by simp)
    rw [hpe] at hy
    clear hpe hY
    gi_wp2
    refine hR.mono ?_
    rintro e W3 (⟨rfl, hJ3, hk3⟩ | ⟨rfl, hJx3⟩)
    · gi_wp2
      go_end0
      exact ⟨⟨_, rfl⟩, .inl ⟨[px], by rw [List.map_cons, HPT.out]; rfl, hJ3⟩⟩
    · gi_wp2
      go_end0
      exact ⟨⟨_, rfl⟩, .inr ⟨_, trivial, hJx3⟩⟩

/-- The iterator's contract: every piece in order. -/
theorem blank_stops (F : Fence) (n : Nat) (h31 : F.fn 31) (hg : F.fn 26) (hro : F.round = none) (hn : 2 ≤ n) (Bb Bc n₀ : Nat) (v : Value) (bs : List UInt8) (w : World) (hBb : Bb + 1 < w.heap.size) (hBc : Bc = Bb + 1) (hn₀ : n₀ ≤ w.heap.size)
    (hcb : w.cell? ⟨Bb, 0, none⟩ = some v) (hcc : w.cell? ⟨Bc, 0, none⟩ = some (.func (.func 26) #[] #[])) (hI : BytesAt n₀ w v bs) :
    SeqStopsK F n Tryd.prog 31 #[.pointer (some ⟨Bb, 0, none⟩), .pointer (some ⟨Bc, 0, none⟩)] (Piece.encs (n₀ := n₀) (w₀ := w)) (Keeps n₀ Bb) (fun ys => ys.map Piece.told = pcs blankB bs) (fun _ => True) (bs.length + 1) w := fun l J Jx W hW _ _ hY h0 => by
  have hW' : Below n₀ w W := hW.mono hn₀
  have hcb' := (hW.cell (p := ⟨Bb, 0, none⟩) (show Bb < w.heap.size by omega)).trans hcb
  have hcc' := (hW.cell (p := ⟨Bc, 0, none⟩) (show Bc < w.heap.size by omega)).trans hcc
  rcases hI.below hW' with ⟨rfl, rfl⟩ | ⟨b, off, cap, rfl, ⟨hlen, hlen2, hcap⟩, hb, hcs⟩
  · exact blank1_nil_in F n h31 hro hn l Bb Bc n₀ w W J Jx hY hcb' h0
  · exact blank1_in F n h31 hg hro hn l Bb Bc n₀ b off cap bs hlen hlen2 hcap hb hBc w W J Jx hY hW' hcb' hcc' hcs h0
end Go.Proofs.YtcpclpckjheadaaDoor
