/- The contract of the program's iterator over a path's parts. -/
import Derived.RangeFuncBox
import Derived.Shelf.Abstract
import Derived.Shelf.RegionOpen
import Derived.WalkKit
import Derived.OwnWalkIn
import Derived.TacticsInMore
import Derived.LoopNIn
import Derived.LoopIn
import Derived.Test.YtbbmihlabllliaaGreatDoorBoxLaw
import Derived.Test.YtbbmihlabllliaaGreatDoorBase
import Derived.Test.YtbbmihlabllliaaGreatDoorShelf
namespace Go.Proofs.YtbbmihlabllliaaGreatDoor
open Go.RowKit Go.Shelf

attribute [local go_sem] Oper.semAt_some

def cut1 (l : List UInt8) : List UInt8 := (Lib.cut l [47]).1
def cut2 (l : List UInt8) : List UInt8 := (Lib.cut l [47]).2.1
theorem cut1_le (l : List UInt8) : (cut1 l).length ≤ l.length := by
  unfold cut1 Lib.cut; split
  · simp; omega
  · exact Nat.le_refl _
theorem cut2_lt (l : List UInt8) (h : 0 < l.length) : (cut2 l).length < l.length := by
  unfold cut2 Lib.cut; split
  · simp; omega
  · exact h

/-- The parts of a path. -/
def partsN : Nat → List UInt8 → List (List UInt8)
  | 0, _ => []
  | n + 1, l => if l.length = 0 then [] else if (cut1 l).length = 0 then partsN n (cut2 l) else cut1 l :: partsN n (cut2 l)
theorem partsN_enough : ∀ (n m : Nat) (l : List UInt8), l.length ≤ n → l.length ≤ m → partsN n l = partsN m l
  | 0, 0, _, _, _ => rfl
  | 0, m + 1, l, h, _ => by simp [partsN, show l.length = 0 by omega]
  | n + 1, 0, l, _, h => by simp [partsN, show l.length = 0 by omega]
  | n + 1, m + 1, l, h1, h2 => by
    simp only [partsN]
    split
    · rfl
    · have := cut2_lt l (by omega)
      rw [partsN_enough n m (cut2 l) (by omega) (by omega)]
def partsL (l : List UInt8) : List (List UInt8) := partsN l.length l
theorem partsL_nil {l : List UInt8} (h : l.length = 0) : partsL l = [] := by
  unfold partsL; rw [h]; rfl
theorem partsL_cons {l : List UInt8} (h : 0 < l.length) : partsL l = if (cut1 l).length = 0 then partsL (cut2 l) else cut1 l :: partsL (cut2 l) := by
  unfold partsL
  have := cut2_lt l h
  rw [partsN_enough l.length (l.length - 1 + 1) l (by omega) (by omega)]
  simp only [partsN]
  rw [if_neg (by omega), partsN_enough (l.length - 1) (cut2 l).length (cut2 l) (by omega) (by omega)]
theorem partsL_length : ∀ (n : Nat) (l : List UInt8), l.length ≤ n → (partsL l).length ≤ l.length
  | 0, l, h => by rw [partsL_nil (by omega)]; simp
  | n + 1, l, h => by
    by_cases h0 : l.length = 0
    · rw [partsL_nil h0]; simp
    · have := cut2_lt l (by omega)
      have := partsL_length n (cut2 l) (by omega)
      rw [partsL_cons (by omega)]
      split
      · omega
      · simp; omega

abbrev Pt := { s : ByteArray // s.size ≤ 2147483648 }
def Pt.encs (x : Pt) : Array Value := #[.string x.1]
def told (ys : List Pt) : List (List UInt8) := ys.map fun x => x.1.data.toList

/-- What a round that goes on keeps: all below n₀, and the iterator's box. -/
def KeepsB (n₀ B : Nat) (W W' : World) : Prop := Below n₀ W W' ∧ W'.heap[B]? = W.heap[B]?
theorem KeepsB.trans {n₀ B : Nat} {X Y Z : World} (h : KeepsB n₀ B X Y) (k : KeepsB n₀ B Y Z) : KeepsB n₀ B X Z := ⟨h.1.trans k.1, k.2.trans h.2⟩

def pathLen (B : Nat) (w : World) : Nat := match w.cell? ⟨B, 0, none⟩ with | some (.string s) => s.size | _ => 0

def cut3 (l : List UInt8) : Bool := (Lib.cut l [47]).2.2
theorem cut_c (p : List UInt8) (m : Int) (w1 : World) (hl : p.length < 4294967281) (hm : w1.cell? ⟨0, 0, none⟩ = some (.int .i64 m)) :
    Calls Tryz.prog 188 #[.string ⟨p.toArray⟩, .string ⟨#[47]⟩] w1 fun e w' => e = .returned (.tuple #[.string ⟨(cut1 p).toArray⟩, .string ⟨(cut2 p).toArray⟩, .bool (cut3 p)]) ∧ ∃ n, w' = w1.drewN n :=
  Tryz.strings_Cut ⟨p.toArray⟩ ⟨#[47]⟩ m w1 (by simpa [ByteArray.size] using hl) hm

theorem box_set {w : World} {b t : Nat} {u : Value} (h : w.heap[b]? = some (.cells #[u] t)) (v : Value) : (w.setCell ⟨b, 0, none⟩ v).heap[b]? = some (.cells #[v] t) := by
  simp [World.setCell, Array.getElem?_modify, h]
theorem pathLen_set {w : World} {b t : Nat} {u : Value} (h : w.heap[b]? = some (.cells #[u] t)) (s : ByteArray) : pathLen b (w.setCell ⟨b, 0, none⟩ (.string s)) = s.size := by
  simp [pathLen, World.cell?, box_set h]

theorem grown_drewN (w : World) (n : Nat) (r : Option Nat) : w.grownBy (w.drewN n) r := ⟨rfl, rfl, rfl, Nat.le_refl _, fun _ _ _ => rfl⟩

set_option maxRecDepth 100000 in
set_option maxHeartbeats 2000000 in
theorem parts_gives (Bp n₀ : Nat) (s : ByteArray) (m : Int) (w : World) (hs : s.size ≤ 2147483648) (hBp : n₀ ≤ Bp) (hn₀ : 0 < n₀) (_hn₁ : n₀ ≤ w.heap.size) (hB : Bp < w.heap.size)
    (hcb : w.heap[Bp]? = some (.cells #[.string s] 9)) (hm : w.cell? ⟨0, 0, none⟩ = some (.int .i64 m)) (n : Nat) (hn : 2 ≤ n) :
    GivesBox Fence.wide n Tryz.prog 187 #[.pointer (some ⟨Bp, 0, none⟩)] Pt.encs (KeepsB n₀ Bp) (fun ys => told ys = partsL s.data.toList) (fun ys => ∃ r, told ys ++ r = partsL s.data.toList) (s.size + 1) Bp w := by
  intro l J Jx W hW hJ hJx hY h0
  have hcb' : W.heap[Bp]? = some (.cells #[.string s] 9) := (hW.block Bp hB).trans hcb
  have hm' : W.cell? ⟨0, 0, none⟩ = some (.int .i64 m) := (hW.cell (p := ⟨0, 0, none⟩) (show 0 < w.heap.size by omega)).trans hm
  clear hcb hm hW _hn₁ hB
  refine callsIn_of_wp Tryz.func187 rfl trivial ?_ rfl
  simp only [Tryz.ntmps187, List.size_toArray, List.length_cons, List.length_nil, Nat.reduceAdd, Nat.reduceSub, Array.replicate_succ, Array.replicate_zero, List.push_toArray, List.append_toArray, List.nil_append, List.cons_append]
  gi_wp2
  gi_loopw [6] (fun _ wr => ∃ (p : List UInt8) (ys : List Pt), wr.heap[Bp]? = some (.cells #[.string ⟨p.toArray⟩] 9) ∧ wr.cell? ⟨0, 0, none⟩ = some (.int .i64 m) ∧ p.length ≤ s.size ∧ ys.length + p.length ≤ s.size ∧ Hid (told ys ++ partsL p = partsL s.data.toList) ∧ J ys wr) (fun _ wr => pathLen Bp wr)
  case atStart => exact ⟨s.data.toList, [], by simpa using hcb', hm', by rw [← Lib.size_eq]; exact Nat.le_refl _, by rw [← Lib.size_eq]; simp, rfl, h0⟩
  case round =>
    obtain ⟨p, ys, hcp, hmr, hpl, hyl, HT, hJs⟩ := hrel
    have hc : wr.cell? ⟨Bp, 0, none⟩ = some (.string ⟨p.toArray⟩) := by simp [World.cell?, hcp]
    have hf : wr.frozen? ⟨Bp, 0, none⟩ = false := by simp [World.frozen?, hcp]
    have HM : Hid (pathLen Bp wr = p.length) := by show _ = _; simp [pathLen, hc, ByteArray.size]
    clear hcb' hm' h0
    have h1 : 1 ≤ n := by omega
    have hsz : (⟨p.toArray⟩ : ByteArray).size = p.length := by simp [ByteArray.size]
    by_cases hp : p.length = 0
    · have hp0 : ¬ (0 : Int) < (p.length : Int) := by omega
      gi_wp2
      go_end0
      exact ⟨⟨_, rfl⟩, .inl ⟨ys, by rw [← HT.out, partsL_nil hp, List.append_nil], hJs⟩⟩
    · have hp0 : (0 : Int) < (p.length : Int) := by omega
      have HC := Lib.hid (partsL_cons (l := p) (by omega))
      have HL := Lib.hid (cut2_lt p (by omega))
      have H1 := Lib.hid (cut1_le p)
      by_cases hq : (cut1 p).length = 0
      · have he : (cut1 p).isEmpty = true := by simpa using hq
        have HT2 : Hid (told ys ++ partsL (cut2 p) = partsL s.data.toList) := by show _ = _; rw [← HT.out, HC.out, if_pos hq]
        clear hq
        gi_wp2_with (refine ⟨trivial, ?_⟩; gi_at_call 188; refine (callsIn_wide.2 (cut_c p m _ (by omega) hmr)).mono ?_; rintro e w2 ⟨rfl, k, hw2⟩; have hcp2 : w2.heap[Bp]? = some (.cells #[.string ⟨p.toArray⟩] 9) := (by rw [hw2]; exact hcp); have hJ2 := hJ _ _ _ hJs (grown_drewN wr k (some Bp)); rw [← hw2] at hJ2; have hc2 : w2.cell? ⟨Bp, 0, none⟩ = some (.string ⟨p.toArray⟩) := (by simp [World.cell?, hcp2]); have hf2 : w2.frozen? ⟨Bp, 0, none⟩ = false := (by simp [World.frozen?, hcp2]); have hm2 : w2.cell? ⟨0, 0, none⟩ = some (.int .i64 m) := (by rw [hw2]; exact hmr); clear hw2)
        refine ⟨fun _ h => (by cases h), ?_⟩
        gi_wp2
        go_roundw
        case rel => exact ⟨cut2 p, ys, box_set hcp2 _, (World.cell?_setCell_other _ _ _ _ (by intro h; injection h with h1; omega)).trans hm2, by have := HL.out; omega, by have := HL.out; omega, HT2, hJ _ _ _ hJ2 (grownBy_setCell' _ _ _)⟩
        case measure => rw [HM.out, pathLen_set hcp2]; have := HL.out; simpa [ByteArray.size] using this
      · have he : (cut1 p).isEmpty = false := by simpa using hq
        have HT2 : Hid (told ys ++ cut1 p :: partsL (cut2 p) = partsL s.data.toList) := by show _ = _; rw [← HT.out, HC.out, if_neg hq]
        obtain ⟨px, hpe, HP⟩ : ∃ px : Pt, px.encs = #[.string ⟨(cut1 p).toArray⟩] ∧ Hid (px.1.data.toList = cut1 p) := ⟨⟨⟨(cut1 p).toArray⟩, by have := H1.out; simp [ByteArray.size]; omega⟩, rfl, by show _ = _; simp⟩
        have HT3 : Hid (told (ys ++ [px]) ++ partsL (cut2 p) = partsL s.data.toList) := by show _ = _; rw [← HT2.out, told, List.map_append, List.map_cons, List.map_nil, HP.out, List.append_assoc]; rfl
        clear hq
        gi_wp2_with (refine ⟨trivial, ?_⟩; gi_at_call 188; refine (callsIn_wide.2 (cut_c p m _ (by omega) hmr)).mono ?_; rintro e w2 ⟨rfl, k, hw2⟩; have hcp2 : w2.heap[Bp]? = some (.cells #[.string ⟨p.toArray⟩] 9) := (by rw [hw2]; exact hcp); have hJ2 := hJ _ _ _ hJs (grown_drewN wr k (some Bp)); rw [← hw2] at hJ2; have hc2 : w2.cell? ⟨Bp, 0, none⟩ = some (.string ⟨p.toArray⟩) := (by simp [World.cell?, hcp2]); have hf2 : w2.frozen? ⟨Bp, 0, none⟩ = false := (by simp [World.frozen?, hcp2]); have hm2 : w2.cell? ⟨0, 0, none⟩ = some (.int .i64 m) := (by rw [hw2]; exact hmr); clear hw2; obtain ⟨fn, tmps, assign, body, hy, hR⟩ := hY ys px w2 hJ2 (by omega); rw [hpe] at hy)
        refine hR.mono ?_
        rintro e W3 (⟨rfl, hJ3, hk3⟩ | ⟨rfl, hJx3⟩)
        · have hcp3 : W3.heap[Bp]? = some (.cells #[.string ⟨p.toArray⟩] 9) := hk3.2.trans hcp2
          have hc3 : W3.cell? ⟨Bp, 0, none⟩ = some (.string ⟨p.toArray⟩) := by simp [World.cell?, hcp3]
          have hf3 : W3.frozen? ⟨Bp, 0, none⟩ = false := by simp [World.frozen?, hcp3]
          have hm3 : W3.cell? ⟨0, 0, none⟩ = some (.int .i64 m) := (hk3.1.cell (p := ⟨0, 0, none⟩) hn₀).trans hm2
          gi_wp2
          go_roundw
          case rel => exact ⟨cut2 p, ys ++ [px], box_set hcp3 _, (World.cell?_setCell_other _ _ _ _ (by intro h; injection h with h1; omega)).trans hm3, by have := HL.out; omega, by have := HL.out; simp; omega, HT3, hJ _ _ _ hJ3 (grownBy_setCell' _ _ _)⟩
          case measure => rw [HM.out, pathLen_set hcp3]; have := HL.out; simpa [ByteArray.size] using this
        · gi_wp2
          refine bodyPost_ret (results_none rfl _ _ _) rfl ?_
          exact ⟨⟨_, rfl⟩, .inr ⟨_, ⟨_, HT3.out⟩, hJx3⟩⟩
end Go.Proofs.YtbbmihlabllliaaGreatDoor
