/- The contract of the program's iterator over a path's parts. -/
import Derived.RangeFuncBox
import Derived.Shelf.Abstract
import Derived.Shelf.RegionOpen
import Derived.WalkKit
import Derived.OwnWalkIn
import Derived.TacticsInMore
import Derived.LoopNIn
import Derived.LoopIn
import Derived.Test.YteimilnecahifaaGreatDoorBoxLaw
import Derived.Test.YteimilnecahifaaGreatDoorKBefall
import Derived.Test.YteimilnecahifaaGreatDoorFile
import Derived.Maps.OwnIn
import Derived.Shelf.Strings.Builder1
import Derived.Shelf.Strings.Builder2
import Derived.Shelf.Strings.OnBuilder
import Derived.Shelf.Strings.Trim
import Derived.Shelf.Small.Utf8
import Derived.Shelf.Small.Strs
import Derived.Shelf.Small.Wraps
import Derived.Shelf.Strings.BuilderF
import Derived.Shelf.Strings.Builder2Cap
import Derived.Shelf.Strconv.Itoa0
import Derived.Shelf.Strconv.Itoa1
import Derived.Shelf.LaysM
import Derived.Shelf.Strconv.Itoa2
import Derived.Shelf.Strconv.Itoa3
import Derived.Shelf.Strconv.Itoa4
import Derived.Shelf.Strconv.Clone
import Derived.Shelf.Strconv.SyntaxError
import Derived.Shelf.Strings.Search1
import Derived.Shelf.Strings.Search2
import Derived.Shelf.Strings.Search3
import Derived.Shelf.Strings.Cut
import Derived.Shelf.Strings.Count
import Derived.Shelf.Strings.Shaped
import Derived.Shelf.Strings.LastIndex
import Derived.Shelf.Strings.Prefix
import Derived.Shelf.Unicode.Latin
import Derived.Shelf.Strings.Runes
import Derived.Shelf.Strings.IndexAny
import Derived.Shelf.Strings.AsciiSet
import Derived.Shelf.Strings.IndexAnyAll
import Derived.Shelf.Bits.Mul64
import Derived.Shelf.Strings.Repeat
import Derived.Shelf.Unicode.DecodeSlow
import Derived.Shelf.Unicode.CaseLookup
import Derived.Shelf.Unicode.CaseConvert
import Derived.Shelf.Unicode.CaseTo
import Derived.Shelf.Unicode.CaseLaid
import Derived.Shelf.Slices.Clone
import Derived.Shelf.Bytes.SlClone
import Derived.Shelf.SlicesE.Clone
import Derived.Test.YteimilnecahifaaGreatDoorProg
namespace Go.Proofs.YteimilnecahifaaGreatDoor
open Go.RowKit Go.Shelf

attribute [local go_sem] Oper.semAt_some

def cut1 (l : List UInt8) : List UInt8 := (Lib.cut l [47]).1
def cut2 (l : List UInt8) : List UInt8 := (Lib.cut l [47]).2.1
theorem cut1_le (l : List UInt8) : (cut1 l).length ≤ l.length := by
  unfold cut1 Lib.cut; split
  · simp; omega
  · exact Nat.le_refl _
theorem cut2_lt (l : List UInt8) (h : 0 < l.length) : (cut2 l).length < l.length := by
  unfold cut2 Lib.cut; split
  · simp; omega
  · exact h

/-- The parts of a path. -/
def partsN : Nat → List UInt8 → List (List UInt8)
  | 0, _ => []
  | n + 1, l => if l.length = 0 then [] else if (cut1 l).length = 0 then partsN n (cut2 l) else cut1 l :: partsN n (cut2 l)
theorem partsN_enough : ∀ (n m : Nat) (l : List UInt8), l.length ≤ n → l.length ≤ m → partsN n l = partsN m l
  | 0, 0, _, _, _ => rfl
  | 0, m + 1, l, h, _ => by simp [partsN, show l.length = 0 by omega]
  | n + 1, 0, l, _, h => by simp [partsN, show l.length = 0 by omega]
  | n + 1, m + 1, l, h1, h2 => by
    simp only [partsN]
    split
    · rfl
    · have := cut2_lt l (by omega)
      rw [partsN_enough n m (cut2 l) (by omega) (by omega)]
def partsL (l : List UInt8) : List (List UInt8) := partsN l.length l
theorem partsL_nil {l : List UInt8} (h : l.length = 0) : partsL l = [] := by
  unfold partsL; rw [h]; rfl
theorem partsL_cons {l : List UInt8} (h : 0 < l.length) : partsL l = if (cut1 l).length = 0 then partsL (cut2 l) else cut1 l :: partsL (cut2 l) := by
  unfold partsL
  have := cut2_lt l h
  rw [partsN_enough l.length (l.length - 1 + 1) l (by omega) (by omega)]
  simp only [partsN]
  rw [if_neg (by omega), partsN_enough (l.length - 1) (cut2 l).length (cut2 l) (by omega) (by omega)]
abbrev Pt := { s : ByteArray // s.size ≤ 2147483648 }
def Pt.encs (x : Pt) : Array Value := #[.string x.1]
def told (ys : List Pt) : List (List UInt8) := ys.map fun x => x.1.data.toList

/-- What a round that goes on keeps: all below n₀, and the iterator's box. -/
def KeepsB (n₀ B : Nat) (W W' : World) : Prop := Below n₀ W W' ∧ W'.heap[B]? = W.heap[B]?
theorem KeepsB.trans {n₀ B : Nat} {X Y Z : World} (h : KeepsB n₀ B X Y) (k : KeepsB n₀ B Y Z) : KeepsB n₀ B X Z := ⟨h.1.trans k.1, k.2.trans h.2⟩

def pathLen (B : Nat) (w : World) : Nat := match w.cell? ⟨B, 0, none⟩ with | some (.string s) => s.size | _ => 0

def cut3 (l : List UInt8) : Bool := (Lib.cut l [47]).2.2
theorem cut_c (p : List UInt8) (m : Int) (w1 : World) (hl : p.length < 4294967281) (hm : w1.cell? ⟨0, 0, none⟩ = some (.int .i64 m)) :
    Calls Tryz.prog 226 #[.string ⟨p.toArray⟩, .string ⟨#[47]⟩] w1 fun e w' => e = .returned (.tuple #[.string ⟨(cut1 p).toArray⟩, .string ⟨(cut2 p).toArray⟩, .bool (cut3 p)]) ∧ ∃ n, w' = w1.drewN n :=
  Tryz.strings_Cut ⟨p.toArray⟩ ⟨#[47]⟩ m w1 (by simpa [ByteArray.size] using hl) hm

theorem box_set {w : World} {b t : Nat} {u : Value} (h : w.heap[b]? = some (.cells #[u] t)) (v : Value) : (w.setCell ⟨b, 0, none⟩ v).heap[b]? = some (.cells #[v] t) := by
  simp [World.setCell, Array.getElem?_modify, h]
theorem pathLen_set {w : World} {b t : Nat} {u : Value} (h : w.heap[b]? = some (.cells #[u] t)) (s : ByteArray) : pathLen b (w.setCell ⟨b, 0, none⟩ (.string s)) = s.size := by
  simp [pathLen, World.cell?, box_set h]

theorem grown_drewN (w : World) (n : Nat) (r : Option Nat) : w.grownBy (w.drewN n) r := ⟨rfl, rfl, rfl, Nat.le_refl _, fun _ _ _ => rfl⟩

set_option maxRecDepth 100000 in
set_option maxHeartbeats 2000000 in
theorem parts_gives (Bp n₀ : Nat) (s : ByteArray) (m : Int) (w : World) (hs : s.size ≤ 2147483648) (hBp : n₀ ≤ Bp) (hn₀ : 0 < n₀) (_hn₁ : n₀ ≤ w.heap.size) (hB : Bp < w.heap.size)
    (hcb : w.heap[Bp]? = some (.cells #[.string s] 9)) (hm : w.cell? ⟨0, 0, none⟩ = some (.int .i64 m)) (n : Nat) (hn : 2 ≤ n) :
    GivesBox Fence.wide n Tryz.prog 225 #[.pointer (some ⟨Bp, 0, none⟩)] Pt.encs (KeepsB n₀ Bp) (fun ys => told ys = partsL s.data.toList) (fun ys => ∃ r, told ys ++ r = partsL s.data.toList) (s.size + 1) Bp w := by
  intro l J Jx W hW hJ hJx hY h0
  have hcb' : W.heap[Bp]? = some (.cells #[.string s] 9) := (hW.block Bp hB).trans hcb
  have hm' : W.cell? ⟨0, 0, none⟩ = some (.int .i64 m) := (hW.cell (p := ⟨0, 0, none⟩) (show 0 < w.heap.size by omega)).trans hm
  clear hcb hm hW _hn₁ hB
  refine callsIn_of_wp Tryz.func225 rfl trivial ?_ rfl
  simp only [Tryz.ntmps225, List.size_toArray, List.length_cons, List.length_nil, Nat.reduceAdd, Nat.reduceSub, Array.replicate_succ, Array.replicate_zero, List.push_toArray, List.append_toArray, List.nil_append, List.cons_append]
  gi_wp2
  gi_loopw [6] (fun _ wr => ∃ (p : List UInt8) (ys : List Pt), wr.heap[Bp]? = some (.cells #[.string ⟨p.toArray⟩] 9) ∧ wr.cell? ⟨0, 0, none⟩ = some (.int .i64 m) ∧ p.length ≤ s.size ∧ ys.length + p.length ≤ s.size ∧ Hid (told ys ++ partsL p = partsL s.data.toList) ∧ J ys wr) (fun _ wr => pathLen Bp wr)
  case atStart => exact ⟨s.data.toList, [], by simpa using hcb', hm', by rw [← Lib.size_eq]; exact Nat.le_refl _, by rw [← Lib.size_eq]; simp, rfl, h0⟩
  case round =>
    obtain ⟨p, ys, hcp, hmr, hpl, hyl, HT, hJs⟩ := hrel
    have hc : wr.cell? ⟨Bp, 0, none⟩ = some (.string ⟨p.toArray⟩) := by simp [World.cell?, hcp]
    have hf : wr.frozen? ⟨Bp, 0, none⟩ = false := by simp [World.frozen?, hcp]
    have HM : Hid (pathLen Bp wr = p.length) := by show _ = _; simp [pathLen, hc, ByteArray.size]
    clear hcb' hm' h0
    have h1 : 1 ≤ n := by omega
    have hsz : (⟨p.toArray⟩ : ByteArray).size = p.length := by simp [ByteArray.size]
    by_cases hp : p.length = 0
    · have hp0 : ¬ (0 : Int) < (p.length : Int) := by omega
      gi_wp2
      go_end0
      exact ⟨⟨_, rfl⟩, .inl ⟨ys, by rw [← HT.out, partsL_nil hp, List.append_nil], hJs⟩⟩
    · have hp0 : (0 : Int) < (p.length : Int) := by omega
      have HC := Lib.hid (partsL_cons (l := p) (by omega))
      have HL := Lib.hid (cut2_lt p (by omega))
      have H1 := Lib.hid (cut1_le p)
      by_cases hq : (cut1 p).length = 0
      · have he : (cut1 p).isEmpty = true := by simpa using hq
        have HT2 : Hid (told ys ++ partsL (cut2 p) = partsL s.data.toList) := by show _ = _; rw [← HT.out, HC.out, if_pos hq]
        clear hq
        gi_wp2_with (refine ⟨trivial, ?_⟩; gi_at_call 226; refine (callsIn_wide.2 (cut_c p m _ (by omega) hmr)).mono ?_; rintro e w2 ⟨rfl, k, hw2⟩; have hcp2 : w2.heap[Bp]? = some (.cells #[.string ⟨p.toArray⟩] 9) := (by rw [hw2]; exact hcp); have hJ2 := hJ _ _ _ hJs (grown_drewN wr k (some Bp)); rw [← hw2] at hJ2; have hc2 : w2.cell? ⟨Bp, 0, none⟩ = some (.string ⟨p.toArray⟩) := (by simp [World.cell?, hcp2]); have hf2 : w2.frozen? ⟨Bp, 0, none⟩ = false := (by simp [World.frozen?, hcp2]); have hm2 : w2.cell? ⟨0, 0, none⟩ = some (.int .i64 m) := (by rw [hw2]; exact hmr); clear hw2)
        refine ⟨fun _ h => (by cases h), ?_⟩
        gi_wp2
        go_roundw
        case rel => exact ⟨cut2 p, ys, box_set hcp2 _, (World.cell?_setCell_other _ _ _ _ (by intro h; injection h with h1; omega)).trans hm2, by have := HL.out; omega, by have := HL.out; omega, HT2, hJ _ _ _ hJ2 (grownBy_setCell' _ _ _)⟩
        case measure => rw [HM.out, pathLen_set hcp2]; have := HL.out; simpa [ByteArray.size] using this
      · have he : (cut1 p).isEmpty = false := by simpa using hq
        have HT2 : Hid (told ys ++ cut1 p :: partsL (cut2 p) = partsL s.data.toList) := by show _ = _; rw [← HT.out, HC.out, if_neg hq]
        obtain ⟨px, hpe, HP⟩ : ∃ px : Pt, px.encs = #[.string ⟨(cut1 p).toArray⟩] ∧ Hid (px.1.data.toList = cut1 p) := ⟨⟨⟨(cut1 p).toArray⟩, by have := H1.out; simp [ByteArray.size]; omega⟩, rfl, by show _ = _; simp⟩
        have HT3 : Hid (told (ys ++ [px]) ++ partsL (cut2 p) = partsL s.data.toList) := by show _ = _; rw [← HT2.out, told, List.map_append, List.map_cons, List.map_nil, HP.out, List.append_assoc]; rfl
        clear hq
        gi_wp2_with (refine ⟨trivial, ?_⟩; gi_at_call 226; refine (callsIn_wide.2 (cut_c p m _ (by omega) hmr)).mono ?_; rintro e w2 ⟨rfl, k, hw2⟩; have hcp2 : w2.heap[Bp]? = some (.cells #[.string ⟨p.toArray⟩] 9) := (by rw [hw2]; exact hcp); have hJ2 := hJ _ _ _ hJs (grown_drewN wr k (some Bp)); rw [← hw2] at hJ2; have hc2 : w2.cell? ⟨Bp, 0, none⟩ = some (.string ⟨p.toArray⟩) := (by simp [World.cell?, hcp2]); have hf2 : w2.frozen? ⟨Bp, 0, none⟩ = false := (by simp [World.frozen?, hcp2]); have hm2 : w2.cell? ⟨0, 0, none⟩ = some (.int .i64 m) := (by rw [hw2]; exact hmr); clear hw2; obtain ⟨fn, tmps, assign, body, hy, hR⟩ := hY ys px w2 hJ2 (by omega); rw [hpe] at hy)
        refine hR.mono ?_
        rintro e W3 (⟨rfl, hJ3, hk3⟩ | ⟨rfl, hJx3⟩)
        · have hcp3 : W3.heap[Bp]? = some (.cells #[.string ⟨p.toArray⟩] 9) := hk3.2.trans hcp2
          have hc3 : W3.cell? ⟨Bp, 0, none⟩ = some (.string ⟨p.toArray⟩) := by simp [World.cell?, hcp3]
          have hf3 : W3.frozen? ⟨Bp, 0, none⟩ = false := by simp [World.frozen?, hcp3]
          have hm3 : W3.cell? ⟨0, 0, none⟩ = some (.int .i64 m) := (hk3.1.cell (p := ⟨0, 0, none⟩) hn₀).trans hm2
          gi_wp2
          go_roundw
          case rel => exact ⟨cut2 p, ys ++ [px], box_set hcp3 _, (World.cell?_setCell_other _ _ _ _ (by intro h; injection h with h1; omega)).trans hm3, by have := HL.out; omega, by have := HL.out; simp; omega, HT3, hJ _ _ _ hJ3 (grownBy_setCell' _ _ _)⟩
          case measure => rw [HM.out, pathLen_set hcp3]; have := HL.out; simpa [ByteArray.size] using this
        · gi_wp2
          refine bodyPost_ret (results_none rfl _ _ _) rfl ?_
          exact ⟨⟨_, rfl⟩, .inr ⟨_, ⟨_, HT3.out⟩, hJx3⟩⟩
end Go.Proofs.YteimilnecahifaaGreatDoor

namespace Go.Proofs.YteimilnecahifaaGreatDoor
open Go.RowKit Go.Shelf

attribute [local go_sem] Oper.semAt_some ptr

/-- What is asked of isName. -/
def NameSays : Prop := ∀ (s : ByteArray) (w : World), s.size ≤ 2147483648 → Calls Tryz.prog 160 #[.string s] w fun e w' => e = .returned (.bool (isNm s)) ∧ Below w.heap.size w w'

theorem parts_c (s : ByteArray) (w : World) : Calls Tryz.prog 199 #[.string s] w fun e w' => e = .returned (.func (.func 225) #[] #[.pointer (some ⟨w.heap.size, 0, none⟩)]) ∧ w' = w.alloc (.cells #[.string s] 9) := by
  go_enter Tryz.func199, Tryz.ntmps199
  go_wp2
  go_ret
  exact ⟨rfl, rfl⟩

/-- What lead answers. -/
def leadV : Except Int Nat → Value
  | .ok b => .tuple #[ptr b, .int .i64 0]
  | .error e => .tuple #[.pointer none, .int .i64 e]

def ptsOf (s : ByteArray) : List ByteArray := (partsL s.data.toList).map fun l => ⟨l.toArray⟩

def strs (ys : List Pt) : List ByteArray := (told ys).map fun l => ⟨l.toArray⟩
theorem strs_snoc (ys : List Pt) (x : Pt) : strs (ys ++ [x]) = strs ys ++ [x.1] := by
  simp only [strs, told, List.map_append, List.map_cons, List.map_nil, Array.toArray_toList]
/-- Between two rounds: the results' boxes, the box of where we are. -/
def LeadI (g : Graph) (b0 n : Nat) (w : World) (ys : List Pt) (W : World) : Prop :=
  ∃ cur, W.heap[n]? = some (.cells #[.pointer none] 156) ∧ W.heap[n + 1]? = some (.cells #[.int .i64 0] 91) ∧ W.heap[n + 2]? = some (.cells #[ptr cur] 156) ∧ leadF g b0 (strs ys) = .ok cur ∧ Below n w W ∧ n + 4 ≤ W.heap.size
def LeadX (g : Graph) (b0 n : Nat) (w : World) (c : Code) (ys : List Pt) (W : World) : Prop :=
  ∃ e v, c = .ret ∧ W.heap[n]? = some (.cells #[.pointer none] 156) ∧ W.heap[n + 1]? = some (.cells #[.int .i64 e] 91) ∧ W.heap[n + 2]? = some (.cells #[v] 156) ∧ leadF g b0 (strs ys) = .error e ∧ Below n w W

theorem kept_at {X Y : World} {row : Option Nat} {n k : Nat} {o : Obj} (hg : X.grownBy Y row) (hr : ∀ r, row = some r → n ≤ r) (hk : k < n) (h : X.heap[k]? = some o) : Y.heap[k]? = some o :=
  (hg.block k (Array.getElem?_eq_some_iff.1 h).1 (fun e => by have := hr k e.symm; omega)).trans h
theorem LeadI.kept {g : Graph} {b0 n : Nat} {w : World} {ys : List Pt} {X Y : World} {row : Option Nat} (h : LeadI g b0 n w ys X) (hg : X.grownBy Y row) (hr : ∀ r, row = some r → n + 3 ≤ r) : LeadI g b0 n w ys Y := by
  obtain ⟨cur, h1, h2, h3, h4, hB, hz⟩ := h
  exact ⟨cur, kept_at hg hr (by omega) h1, kept_at hg hr (by omega) h2, kept_at hg hr (by omega) h3, h4, hB.grown hg (by have := (Array.getElem?_eq_some_iff.1 h1).1; omega) (fun k e => by have := hr k e; omega), Nat.le_trans hz hg.size⟩
theorem LeadX.kept {g : Graph} {b0 n : Nat} {w : World} {c : Code} {ys : List Pt} {X Y : World} {row : Option Nat} (h : LeadX g b0 n w c ys X) (hg : X.grownBy Y row) (hr : ∀ r, row = some r → n + 3 ≤ r) : LeadX g b0 n w c ys Y := by
  obtain ⟨e, v, hc, h1, h2, h3, h4, hB⟩ := h
  exact ⟨e, v, hc, kept_at hg hr (by omega) h1, kept_at hg hr (by omega) h2, kept_at hg hr (by omega) h3, h4, hB.grown hg (by have := (Array.getElem?_eq_some_iff.1 h1).1; omega) (fun k e => by have := hr k e; omega)⟩


theorem toList_ne {q : ByteArray} {l : List UInt8} (h : ¬ q = ⟨l.toArray⟩) : (q.toList == l) = false := by
  rw [Lib.toList_data]
  refine beq_eq_false_iff_ne.2 fun e => h ?_
  rw [← e]
theorem below_keeps {B : Nat} {W W2 : World} (h : Below W.heap.size W W2) : KeepsFrom B W W2 :=
  ⟨h.size, fun k _o _ hk _ => (h.block k (Array.getElem?_eq_some_iff.1 hk).1).trans hk⟩

theorem cell_put {W : World} {D n t : Nat} {v : Value} {o : Obj} (h : n ≠ D) (e : W.heap[n]? = some (.cells #[v] t)) : (W.putObj D o).cell? ⟨n, 0, none⟩ = some v := by
  have : (W.putObj D o).heap[n]? = some (.cells #[v] t) := (World.putObj_heap_other h).trans e
  simp [World.cell?, this]
theorem results_c2 {fn : Func} {p q : Tmp} (h : fn.results = #[.cell p 156, .cell q 91]) {tmps : Array Value} {w : World} {a b : Addr} {u v : Value} (hp : tmps.getD p undef = .pointer (some a)) (hq : tmps.getD q undef = .pointer (some b))
    (ha : w.cell? a = some u) (hb : w.cell? b = some v) (_h1 : a.spot = none) (_h2 : b.spot = none) : (results fn tmps).run Tryz.prog w = .ok (.tuple #[u, v]) w := by
  have hp' : tmps[p]?.getD undef = .pointer (some a) := by simpa using hp
  have hq' : tmps[q]?.getD undef = .pointer (some b) := by simpa using hq
  simp [results, h, hp', hq', asAddr, Sem.run_bind, Result.andThen, go_sem, ha, hb]

/-- A round that leaves with an error. -/
theorem lead_leave {g : Graph} {b0 n B : Nat} {w W : World} {ys : List Pt} {u v : Value} {e : Int} {z : Int} (_hBn : n + 3 ≤ B) (h1 : W.heap[n]? = some (.cells #[u] 156)) (h2 : W.heap[n + 1]? = some (.cells #[.int .i64 z] 91)) (h3 : W.heap[n + 2]? = some (.cells #[v] 156)) (hB : Below n w W) (he : leadF g b0 (strs ys) = .error e) :
    KeepsFrom B W ((W.setCell ⟨n, 0, none⟩ (.pointer none)).setCell ⟨n + 1, 0, none⟩ (.int .i64 e)) ∧ LeadX g b0 n w .ret ys ((W.setCell ⟨n, 0, none⟩ (.pointer none)).setCell ⟨n + 1, 0, none⟩ (.int .i64 e)) := by
  refine ⟨((KeepsOthers.setCell _ _ _).trans (KeepsOthers.setCell _ _ _)).from B, e, v, rfl, ?_, ?_, ?_, he, (hB.setCell (p := ⟨n, 0, none⟩) (Nat.le_refl _) _).setCell (p := ⟨n + 1, 0, none⟩) (by simp) _⟩
  · rw [Below.heap_setCell _ _ _ _ (by simp)]; exact box_set h1 _
  · exact box_set (u := .int .i64 z) (by rw [Below.heap_setCell _ _ _ _ (by simp)]; exact h2) _
  · rw [Below.heap_setCell _ _ _ _ (by simp), Below.heap_setCell _ _ _ _ (by simp)]; exact h3
/-- A round that goes on. -/
theorem lead_on {g : Graph} {b0 n B c : Nat} {w W : World} {ys : List Pt} {u : Value} (h1 : W.heap[n]? = some (.cells #[.pointer none] 156)) (h2 : W.heap[n + 1]? = some (.cells #[.int .i64 0] 91)) (h3 : W.heap[n + 2]? = some (.cells #[u] 156)) (hB : Below n w W) (hz : n + 4 ≤ W.heap.size) (he : leadF g b0 (strs ys) = .ok c) :
    KeepsFrom B W (W.setCell ⟨n + 1 + 1, 0, none⟩ (ptr c)) ∧ KeepsB n (n + 1 + 1 + 1) W (W.setCell ⟨n + 1 + 1, 0, none⟩ (ptr c)) ∧ LeadI g b0 n w ys (W.setCell ⟨n + 1 + 1, 0, none⟩ (ptr c)) := by
  have hb : Below n W (W.setCell ⟨n + 1 + 1, 0, none⟩ (ptr c)) := (Below.refl n W).setCell (p := ⟨n + 1 + 1, 0, none⟩) (by simp; omega) _
  refine ⟨(KeepsOthers.setCell _ _ _).from B, ⟨hb, Below.heap_setCell _ _ _ _ (by simp)⟩, c, ?_, ?_, box_set h3 _, he, hB.trans hb, by simpa [World.setCell] using hz⟩
  · rw [Below.heap_setCell _ _ _ _ (by simp; omega)]; exact h1
  · rw [Below.heap_setCell _ _ _ _ (by simp)]; exact h2

set_option maxRecDepth 100000 in
set_option maxHeartbeats 4000000 in
theorem lead_in (hnm : NameSays) (g : Graph) (hcl : Closed g) (b0 : Nat) (s : ByteArray) (m : Int) (w : World) (hs : s.size ≤ 2147483648) (hm : w.cell? ⟨0, 0, none⟩ = some (.int .i64 m)) (hG : Gr w g) (h0 : (g b0).isSome = true) :
    CallsIn Fence.wide 9 Tryz.prog 167 #[ptr b0, .string s] w fun e w' => e = .returned (leadV (leadF g b0 (ptsOf s))) ∧ Below w.heap.size w w' := by
  have hro : Fence.wide.round = none := rfl
  refine callsIn_of_wp_marks Tryz.func167 rfl trivial ?_ hro
  simp only [Tryz.ntmps167, List.size_toArray, List.length_cons, List.length_nil, Nat.reduceAdd, Nat.reduceSub, Array.replicate_succ, Array.replicate_zero, List.push_toArray, List.append_toArray, List.nil_append, List.cons_append]
  gi_wp2_with (refine ⟨trivial, ?_⟩; gi_at_call 199; refine (callsIn_wide.2 (parts_c _ _)).mono ?_; rintro e w' ⟨rfl, rfl⟩)
  have hB0 : Below w.heap.size w ((((w.alloc (.cells #[.pointer none] 156)).alloc (.cells #[.int .i64 0] 91)).alloc (.cells #[ptr b0] 156)).alloc (.cells #[.string s] 9)) := ((((Below.refl _ w).alloc (Nat.le_refl _) _).alloc (by simp) _).alloc (by simp; omega) _).alloc (by simp; omega) _
  obtain ⟨w1, hw1⟩ : ∃ w1, w1 = (((w.alloc (.cells #[.pointer none] 156)).alloc (.cells #[.int .i64 0] 91)).alloc (.cells #[ptr b0] 156)).alloc (.cells #[.string s] 9) := ⟨_, rfl⟩
  have hs1 : w1.heap.size = w.heap.size + 4 := by rw [hw1]; simp
  have e0 : w1.heap[w.heap.size]? = some (.cells #[.pointer none] 156) := by rw [hw1]; exact al_old _ (al_old _ (al_old _ (al_new _ _ rfl)))
  have e1 : w1.heap[w.heap.size + 1]? = some (.cells #[.int .i64 0] 91) := by rw [hw1]; exact al_old _ (al_old _ (al_new _ _ (by simp)))
  have e2 : w1.heap[w.heap.size + 2]? = some (.cells #[ptr b0] 156) := by rw [hw1]; exact al_old _ (al_new _ _ (by simp))
  have e3 : w1.heap[w.heap.size + 3]? = some (.cells #[.string s] 9) := by rw [hw1]; exact al_new _ _ (by simp)
  have h0lt : 0 < w.heap.size := World.block_lt_of_cell? w _ hm
  have hm1 : w1.cell? ⟨0, 0, none⟩ = some (.int .i64 m) := by rw [hw1]; exact (hB0.cell (p := ⟨0, 0, none⟩) h0lt).trans hm
  rw [← hw1] at hB0 ⊢
  clear hw1
  refine range_box hro (by omega) (gf := 225) (lb := #[.pointer (some ⟨w.heap.size + 1 + 1 + 1, 0, none⟩)]) rfl trivial (enters_of Tryz.func225 (by kernel_rfl) rfl)
    (parts_gives (w.heap.size + 1 + 1 + 1) w.heap.size s m w1 hs (by omega) h0lt (by omega) (by omega) e3 hm1 8 (by omega)) (by omega) KeepsB.trans
    (fun W l o' hl => ⟨(Below.refl w.heap.size W).trans ⟨rfl, rfl, rfl, by simp [World.putObj], fun k hk => World.putObj_heap_other (by omega)⟩, World.putObj_heap_other (by omega)⟩) (fun _ => rfl)
    (LeadI g b0 w.heap.size w) (LeadX g b0 w.heap.size w)
    (fun ys X Y row h hg hr => h.kept hg (fun r e => by have := (hr r e).1; omega)) (fun c ys X Y row h hg hr => h.kept hg (fun r e => by have := (hr r e).1; omega))
    (fun ys X Y h hg => h.kept hg (fun r e => by cases e; omega)) (fun c ys X Y h hg => h.kept hg (fun r e => by cases e; omega))
    ⟨b0, e0, e1, e2, rfl, hB0, by omega⟩
    (fun x => { tmps := #[.pointer (some ⟨b0, 0, none⟩), .string s, undef, undef, .pointer (some ⟨w.heap.size, 0, none⟩), .pointer (some ⟨w.heap.size + 1, 0, none⟩), .pointer (some ⟨w.heap.size + 1 + 1, 0, none⟩), .string x.1, .pointer (some ⟨b0, 0, none⟩), .string s, .func (.func 225) #[] #[.pointer (some ⟨w.heap.size + 1 + 1 + 1, 0, none⟩)], .string x.1, undef, undef, undef, undef, undef, undef, undef, undef, undef, undef, undef, undef, undef, undef, undef, undef, undef, undef, undef, undef, undef, undef, undef, undef, undef, undef, undef, undef, undef, undef, undef, undef, undef, undef], defers := [] }) ?assign ?body ?done ?stop
  case assign =>
    intro l x W K hK
    simp only [Pt.encs]
    gi_wp2
    exact hK
  case body =>
    rintro l ys ⟨q, hq⟩ W ⟨cur, h1, h2, h3, h4, hB, hz⟩ hlt
    simp only
    have hsome := leadF_some hcl _ h0 h4
    obtain ⟨⟨x, Dm⟩, hg⟩ := Option.isSome_iff_exists.1 hsome
    obtain ⟨hN, hM⟩ := hG cur x Dm hg
    have hNl := hN.lt
    have hN' : NdAt W cur x := hN.below hB hNl
    have HS : Hid (leadF g b0 (strs (ys ++ [⟨q, hq⟩])) = stepF g cur q) := by show _ = _; rw [strs_snoc]; exact leadF_snoc g _ _ _ _ h4
    have c4 : W.cell? ⟨w.heap.size, 0, none⟩ = some (.pointer none) := by simp [World.cell?, h1]
    have c5 : W.cell? ⟨w.heap.size + 1, 0, none⟩ = some (.int .i64 0) := by simp [World.cell?, h2]
    have c6 : W.cell? ⟨w.heap.size + 1 + 1, 0, none⟩ = some (.pointer (some ⟨cur, 0, none⟩)) := by simp [World.cell?, h3]
    have f4 : W.frozen? ⟨w.heap.size, 0, none⟩ = false := by simp [World.frozen?, h1]
    have f5 : W.frozen? ⟨w.heap.size + 1, 0, none⟩ = false := by simp [World.frozen?, h2]
    have f6 : W.frozen? ⟨w.heap.size + 1 + 1, 0, none⟩ = false := by simp [World.frozen?, h3]
    have d3 := hN'.c3
    have d4 := hN'.c4
    have d5 := hN'.c5
    by_cases hdir : x.dir = true
    · rw [hdir] at d3
      obtain ⟨mb, nn, hent, hown⟩ := hM hdir
      rw [hent] at d5
      have hown' : W.ownsMap Tryz.prog 9 R mb nn Dm := hown.kept (row := none) ⟨hB.os, hB.tape, hB.output, hB.size, fun k hk _ => hB.block k hk⟩ (by simp)
      have hlk := lookS hown' (s := q) (by unfold maxLen; omega)
      obtain ⟨⟨u, hu, hgu⟩, hlook⟩ := hcl cur x Dm hg hdir
      rw [hu] at d4
      have HST : Hid (stepF g cur q = if q = ⟨#[46]⟩ then .ok cur else if q = ⟨#[46, 46]⟩ then .ok u else if isNm q = false then .error 13 else if isNil (look Dm (sk q)) = true then .error 1 else .ok (blk (look Dm (sk q)))) := by show _ = _; simp [stepF, hg, hdir, hu, blk]
      by_cases q1 : q = ⟨#[46]⟩
      · have HE : Hid (leadF g b0 (strs (ys ++ [⟨q, hq⟩])) = .ok cur) := by show _ = _; rw [HS.out, HST.out, if_pos q1]
        clear HS HST
        subst q1
        gi_wp2
        exact ⟨KeepsFrom.refl _ _, ⟨Below.refl _ _, rfl⟩, cur, h1, h2, h3, HE.out, hB, hz⟩
      · by_cases q2 : q = ⟨#[46, 46]⟩
        · have HE : Hid (leadF g b0 (strs (ys ++ [⟨q, hq⟩])) = .ok u) := by show _ = _; rw [HS.out, HST.out, if_neg q1, if_pos q2]
          clear HS HST
          subst q2
          gi_wp2
          exact lead_on h1 h2 h3 hB hz HE.out
        · have qa : (q.toList == [46]) = false := toList_ne (l := [46]) q1
          have qb : (q.toList == [46, 46]) = false := toList_ne (l := [46, 46]) q2
          rw [if_neg q1, if_neg q2] at HST
          clear q1 q2
          by_cases q3 : isNm q = true
          · rw [if_neg (by rw [q3]; decide)] at HST
            rcases hlook q with hl | ⟨c, hl, hgc⟩
            · have HE : Hid (leadF g b0 (strs (ys ++ [⟨q, hq⟩])) = .error 1) := by show _ = _; rw [HS.out, HST.out, if_pos (by rw [hl]; rfl)]
              clear HS HST
              gi_wp2_with (refine ⟨trivial, ?_⟩; gi_at_call 160; refine (CallsIn.inRound l (callsIn_wide.2 (hnm q W hq))).mono ?_; rintro e W2 ⟨rfl, hb2⟩; rw [q3]; clear c4 c5 c6 f4 f5 f6 d3 d4 d5 hlk; have h1' := (hb2.block _ (by omega)).trans h1; have h2' := (hb2.block _ (by omega)).trans h2; have h3' := (hb2.block _ (by omega)).trans h3; have c4 : W2.cell? ⟨w.heap.size, 0, none⟩ = some (.pointer none) := (by simp [World.cell?, h1']); have c5 : W2.cell? ⟨w.heap.size + 1, 0, none⟩ = some (.int .i64 0) := (by simp [World.cell?, h2']); have c6 : W2.cell? ⟨w.heap.size + 1 + 1, 0, none⟩ = some (.pointer (some ⟨cur, 0, none⟩)) := (by simp [World.cell?, h3']); have f4 : W2.frozen? ⟨w.heap.size, 0, none⟩ = false := (by simp [World.frozen?, h1']); have f5 : W2.frozen? ⟨w.heap.size + 1, 0, none⟩ = false := (by simp [World.frozen?, h2']); have f6 : W2.frozen? ⟨w.heap.size + 1 + 1, 0, none⟩ = false := (by simp [World.frozen?, h3']); have hB2 : Below w.heap.size w W2 := hB.trans (hb2.mono (by omega)); have hz2 : w.heap.size + 4 ≤ W2.heap.size := Nat.le_trans hz hb2.size; have hNn := hN'.below hb2 hN'.lt; have d5 := hNn.c5; rw [hent] at d5; have hlk := lookS (hown'.kept (row := none) ⟨hb2.os, hb2.tape, hb2.output, hb2.size, fun k hk _ => hb2.block k hk⟩ (by simp)) (s := q) (by unfold maxLen; omega); rw [hl] at hlk)
              obtain ⟨hk, hx⟩ := lead_leave (B := w1.heap.size) (by omega) h1' h2' h3' hB2 HE.out
              exact ⟨(below_keeps hb2).trans hk, hx⟩
            · have HE : Hid (leadF g b0 (strs (ys ++ [⟨q, hq⟩])) = .ok c) := by show _ = _; rw [HS.out, HST.out, if_neg (by rw [hl]; simp [isNil]), hl]; rfl
              clear HS HST
              gi_wp2_with (refine ⟨trivial, ?_⟩; gi_at_call 160; refine (CallsIn.inRound l (callsIn_wide.2 (hnm q W hq))).mono ?_; rintro e W2 ⟨rfl, hb2⟩; rw [q3]; clear c4 c5 c6 f4 f5 f6 d3 d4 d5 hlk; have h1' := (hb2.block _ (by omega)).trans h1; have h2' := (hb2.block _ (by omega)).trans h2; have h3' := (hb2.block _ (by omega)).trans h3; have c4 : W2.cell? ⟨w.heap.size, 0, none⟩ = some (.pointer none) := (by simp [World.cell?, h1']); have c5 : W2.cell? ⟨w.heap.size + 1, 0, none⟩ = some (.int .i64 0) := (by simp [World.cell?, h2']); have c6 : W2.cell? ⟨w.heap.size + 1 + 1, 0, none⟩ = some (.pointer (some ⟨cur, 0, none⟩)) := (by simp [World.cell?, h3']); have f4 : W2.frozen? ⟨w.heap.size, 0, none⟩ = false := (by simp [World.frozen?, h1']); have f5 : W2.frozen? ⟨w.heap.size + 1, 0, none⟩ = false := (by simp [World.frozen?, h2']); have f6 : W2.frozen? ⟨w.heap.size + 1 + 1, 0, none⟩ = false := (by simp [World.frozen?, h3']); have hB2 : Below w.heap.size w W2 := hB.trans (hb2.mono (by omega)); have hz2 : w.heap.size + 4 ≤ W2.heap.size := Nat.le_trans hz hb2.size; have hNn := hN'.below hb2 hN'.lt; have d5 := hNn.c5; rw [hent] at d5; have hlk := lookS (hown'.kept (row := none) ⟨hb2.os, hb2.tape, hb2.output, hb2.size, fun k hk _ => hb2.block k hk⟩ (by simp)) (s := q) (by unfold maxLen; omega); rw [hl] at hlk)
              obtain ⟨hk, hkb, hi⟩ := lead_on (B := w1.heap.size) h1' h2' h3' hB2 hz2 HE.out
              exact ⟨(below_keeps hb2).trans hk, KeepsB.trans ⟨hb2.mono (by omega), hb2.block _ (by omega)⟩ hkb, hi⟩
          · replace q3 : isNm q = false := by simpa using q3
            have HE : Hid (leadF g b0 (strs (ys ++ [⟨q, hq⟩])) = .error 13) := by show _ = _; rw [HS.out, HST.out, if_pos q3]
            clear HS HST
            gi_wp2_with (refine ⟨trivial, ?_⟩; gi_at_call 160; refine (CallsIn.inRound l (callsIn_wide.2 (hnm q W hq))).mono ?_; rintro e W2 ⟨rfl, hb2⟩; rw [q3]; clear c4 c5 c6 f4 f5 f6 d3 d4 d5 hlk; have h1' := (hb2.block _ (by omega)).trans h1; have h2' := (hb2.block _ (by omega)).trans h2; have h3' := (hb2.block _ (by omega)).trans h3; have c4 : W2.cell? ⟨w.heap.size, 0, none⟩ = some (.pointer none) := (by simp [World.cell?, h1']); have c5 : W2.cell? ⟨w.heap.size + 1, 0, none⟩ = some (.int .i64 0) := (by simp [World.cell?, h2']); have c6 : W2.cell? ⟨w.heap.size + 1 + 1, 0, none⟩ = some (.pointer (some ⟨cur, 0, none⟩)) := (by simp [World.cell?, h3']); have f4 : W2.frozen? ⟨w.heap.size, 0, none⟩ = false := (by simp [World.frozen?, h1']); have f5 : W2.frozen? ⟨w.heap.size + 1, 0, none⟩ = false := (by simp [World.frozen?, h2']); have f6 : W2.frozen? ⟨w.heap.size + 1 + 1, 0, none⟩ = false := (by simp [World.frozen?, h3']); have hB2 : Below w.heap.size w W2 := hB.trans (hb2.mono (by omega)); have hz2 : w.heap.size + 4 ≤ W2.heap.size := Nat.le_trans hz hb2.size; have hNn := hN'.below hb2 hN'.lt; have d5 := hNn.c5; rw [hent] at d5; have hlk := lookS (hown'.kept (row := none) ⟨hb2.os, hb2.tape, hb2.output, hb2.size, fun k hk _ => hb2.block k hk⟩ (by simp)) (s := q) (by unfold maxLen; omega))
            obtain ⟨hk, hx⟩ := lead_leave (B := w1.heap.size) (by omega) h1' h2' h3' hB2 HE.out
            exact ⟨(below_keeps hb2).trans hk, hx⟩
    · have hdir' : x.dir = false := by simpa using hdir
      rw [hdir'] at d3
      clear hdir
      have HE : Hid (leadF g b0 (strs (ys ++ [⟨q, hq⟩])) = .error 3) := by show _ = _; rw [HS.out]; simp [stepF, hg, hdir']
      clear HS
      gi_wp2
      exact lead_leave (by omega) h1 h2 h3 hB HE.out
  case done =>
    rintro D ys W hD hS ⟨cur, h1, h2, h3, h4, hB, hz⟩ hK
    have c4 : W.cell? ⟨w.heap.size, 0, none⟩ = some (.pointer none) := by simp [World.cell?, h1]
    have c5 : W.cell? ⟨w.heap.size + 1, 0, none⟩ = some (.int .i64 0) := by simp [World.cell?, h2]
    have c6 : W.cell? ⟨w.heap.size + 1 + 1, 0, none⟩ = some (.pointer (some ⟨cur, 0, none⟩)) := by simp [World.cell?, h3]
    have f4 : W.frozen? ⟨w.heap.size, 0, none⟩ = false := by simp [World.frozen?, h1]
    have f5 : W.frozen? ⟨w.heap.size + 1, 0, none⟩ = false := by simp [World.frozen?, h2]
    obtain ⟨W4, hW4⟩ : ∃ W4, W4 = (W.setCell ⟨w.heap.size, 0, none⟩ (.pointer (some ⟨cur, 0, none⟩))).setCell ⟨w.heap.size + 1, 0, none⟩ (.int .i64 0) := ⟨_, rfl⟩
    have hz4 : W4.heap.size = W.heap.size := by rw [hW4]; simp [World.setCell]
    have k0 : W4.heap[w.heap.size]? = some (.cells #[ptr cur] 156) := by rw [hW4, Below.heap_setCell _ _ _ _ (by simp)]; exact box_set h1 _
    have k1 : W4.heap[w.heap.size + 1]? = some (.cells #[.int .i64 0] 91) := by rw [hW4]; exact box_set (u := .int .i64 0) (by rw [Below.heap_setCell _ _ _ _ (by simp)]; exact h2) _
    have kK : W4.heap[D]? = some (.deferred (some [])) := by rw [hW4, Below.heap_setCell _ _ _ _ (by simp; omega), Below.heap_setCell _ _ _ _ (by simp; omega)]; exact hK
    have kB : Below w.heap.size w W4 := by rw [hW4]; exact (hB.setCell (p := ⟨w.heap.size, 0, none⟩) (Nat.le_refl _) _).setCell (p := ⟨w.heap.size + 1, 0, none⟩) (by simp) _
    gi_wp2
    rw [← hW4]
    clear hW4 c4 c5 c6 f4 f5
    have hfull : leadF g b0 (ptsOf s) = .ok cur := by rw [← h4, ptsOf, strs, hS]
    refine ⟨by simp, .inl ⟨_, _, rfl, run_takeDeferred kK, ?_⟩⟩
    refine ⟨_, results_c2 rfl (a := ⟨w.heap.size, 0, none⟩) (b := ⟨w.heap.size + 1, 0, none⟩) rfl rfl (cell_put (by omega) k0) (cell_put (by omega) k1) rfl rfl, by rw [hfull]; rfl, kB.trans (belowK_b (w := w) (Nat.le_refl _) W4 D _ _ (by omega) kK rfl rfl)⟩
  case stop =>
    rintro D c ys W hD ⟨r, hS⟩ ⟨e, v, rfl, h1, h2, h3, h4, hB⟩ hK
    gi_wp2
    have hfull : leadF g b0 (ptsOf s) = .error e := by rw [ptsOf, ← hS, List.map_append, leadF_append]; rw [strs] at h4; rw [h4]
    refine ⟨by simp, .inl ⟨_, _, rfl, run_takeDeferred hK, ?_⟩⟩
    refine ⟨_, results_c2 rfl (a := ⟨w.heap.size, 0, none⟩) (b := ⟨w.heap.size + 1, 0, none⟩) rfl rfl (cell_put (by omega) h1) (cell_put (by omega) h2) rfl rfl, by rw [hfull]; rfl, hB.trans (belowK_b (w := w) (Nat.le_refl _) W D _ _ (by omega) hK rfl rfl)⟩

theorem lead_c (hnm : NameSays) (g : Graph) (hcl : Closed g) (b0 : Nat) (s : ByteArray) (m : Int) (w : World) (hs : s.size ≤ 2147483648) (hm : w.cell? ⟨0, 0, none⟩ = some (.int .i64 m)) (hG : Gr w g) (h0 : (g b0).isSome = true) :
    Calls Tryz.prog 167 #[.pointer (some ⟨b0, 0, none⟩), .string s] w fun e w' => e = .returned (leadV (leadF g b0 (ptsOf s))) ∧ Below w.heap.size w w' :=
  (callsIn_wide (n := 9)).1 (lead_in hnm g hcl b0 s m w hs hm hG h0)
end Go.Proofs.YteimilnecahifaaGreatDoor

namespace Go.Proofs
open Go.Shelf
def Tryz.lays119_ren : Go.Shelf.Ren := ⟨fun | 119 => 92 | n => n, fun | 21 => 21 | 4 => 4 | n => n, fun | n => n⟩
theorem Tryz.lays119 : Go.Proofs.Lays.n119 Tryz.prog Tryz.lays119_ren := {
  mixed := by kernel_rfl
  f119 := Tryz.func92.trans (congrArg some (by kernel_rfl))
  t4 := Tryz.underlying4
  a4 := Tryz.isAgg4
  z4 := Tryz.sizeOf4
  v4 := Tryz.zeroValue4
  t21 := Tryz.underlying21
  a21 := Tryz.isAgg21
  z21 := Tryz.sizeOf21
  v21 := Tryz.zeroValue21 }
theorem Tryz.utf8_ValidRune (r : Int) (w : World) :
    Calls Tryz.prog 92 #[.int .i32 r] w fun e w' => e = .returned (.bool (Lib.validRune r)) ∧ w' = w := Any.utf8_ValidRune Tryz.lays119 r w
def Tryz.lays129_ren : Go.Shelf.Ren := ⟨fun | 129 => 60 | n => n, fun | 53 => 66 | 3 => 3 | 4 => 4 | 46 => 105 | 5 => 5 | 9 => 9 | n => n, fun | n => n⟩
theorem Tryz.lays129 : Go.Proofs.Lays.n129 Tryz.prog Tryz.lays129_ren := {
  mixed := by kernel_rfl
  f129 := Tryz.func60.trans (congrArg some (by kernel_rfl))
  t3 := Tryz.underlying3
  a3 := Tryz.isAgg3
  z3 := Tryz.sizeOf3
  v3 := Tryz.zeroValue3
  t4 := Tryz.underlying4
  a4 := Tryz.isAgg4
  z4 := Tryz.sizeOf4
  v4 := Tryz.zeroValue4
  t5 := Tryz.underlying5
  a5 := Tryz.isAgg5
  z5 := Tryz.sizeOf5
  v5 := Tryz.zeroValue5
  t9 := Tryz.underlying9
  a9 := Tryz.isAgg9
  z9 := Tryz.sizeOf9
  v9 := Tryz.zeroValue9
  t46 := Tryz.underlying105
  a46 := Tryz.isAgg105
  z46 := Tryz.sizeOf105
  v46 := Tryz.zeroValue105
  t53 := Tryz.underlying66
  a53 := Tryz.isAgg66
  z53 := Tryz.sizeOf66
  v53 := Tryz.zeroValue66 }
theorem Tryz.bits_Len64 (x : Int) (w : World) (h0 : 0 ≤ x) (h1 : x ≤ 18446744073709551615) :
    Calls Tryz.prog 60 #[.int .u64 x] w fun e w' => e = .returned (.int .i64 (Lib.bitLen x.toNat)) ∧ w' = w := Any.bits_Len64 Tryz.lays129 x w h0 h1
end Go.Proofs
