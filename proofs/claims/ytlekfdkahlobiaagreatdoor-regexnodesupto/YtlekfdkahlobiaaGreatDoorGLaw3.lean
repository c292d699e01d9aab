/- strings.Builder, at this program: what is written to one, and told of it. -/
import Derived.Lib.Builder
import Derived.Lib.AppendStr
import Derived.Lib.UnsafeStr
import Derived.Laws.Externs
import Derived.Test.YtlekfdkahlobiaaGreatDoorHBld3
import Derived.Deep.RegionHeld3
import Derived.Test.YtlekfdkahlobiaaGreatDoorGText
import Derived.Test.YtlekfdkahlobiaaGreatDoorHJoin
import Derived.Test.YtlekfdkahlobiaaGreatDoorGBase
namespace Go.Proofs.YtlekfdkahlobiaaGreatDoor.Re
open Go.RowKit

theorem info_bld : (Tryz.prog.info? 62).map (·.size) = some 2 := by kernel_rfl
theorem info_byte : (Tryz.prog.info? 5).map (fun i => (i.zero, i.size, i.bytes)) = some (some (.int .u8 0), 1, 1) := by kernel_rfl
theorem lies_bld : liesAt Tryz.prog Tryz.prog.depth 62 (2 / Tryz.prog.cellsOf 62) 0 62 1 = true := by kernel_rfl
theorem cells_byte : Tryz.prog.cellsOf 5 = 1 := by kernel_rfl
set_option maxHeartbeats 1000000 in
set_option maxRecDepth 100000 in
theorem check_used (b : Nat) (w : World) (h0 : w.cell? ⟨b, 0, none⟩ = some (.pointer (some ⟨b, 0, none⟩))) :
    Calls Tryz.prog 40 #[ptr b] w fun e w' => e = .returned (.tuple #[]) ∧ w' = w := by
  obtain ⟨j, hj, _⟩ := Option.map_eq_some_iff.1 info_bld
  have hq := Lib.run_neq_ptr_same (P := Tryz.prog) w (tp := 60) ⟨b, 0, none⟩ Tryz.underlying60 hj
  go_enter Tryz.func40, Tryz.ntmps40
  go_wp2_with fail
  go_end0
  exact ⟨rfl, rfl⟩
set_option maxHeartbeats 1000000 in
set_option maxRecDepth 100000 in
theorem check_fresh (b : Nat) (v : Value) (w : World) (hb : w.heap[b]? = some (.cells #[.pointer none, v] 62)) :
    Calls Tryz.prog 40 #[ptr b] w fun e w' => e = .returned (.tuple #[]) ∧ w' = w.setCell ⟨b, 0, none⟩ (ptr b) := by
  obtain ⟨j, hj, hjs⟩ := Option.map_eq_some_iff.1 info_bld
  have h0 := h_cell hb 0 rfl
  have hfz := h_fz hb 0
  have hsh : w.shape? b = some (62, 2) := by simp [World.shape?, hb]
  have q1 := Lib.run_to_unsafe (P := Tryz.prog) w ⟨b, 0, none⟩ Tryz.underlying60 Tryz.underlying99 hj (by rw [hjs]; decide) hsh (Nat.zero_lt_succ 1)
  have q2 := Lib.run_from_unsafe (P := Tryz.prog) w ⟨b, 0, none⟩ Tryz.underlying99 Tryz.underlying60 hj hsh lies_bld
  have q3 : (callFunc 60 #[ptr b]).run Tryz.prog w = .ok (.value (ptr b)) w := by
    rw [run_callFunc_extern Tryz.func60 (by kernel_rfl) (by kernel_rfl) (by kernel_rfl) (e := Extern.AbiNoEscape.same) (by kernel_rfl), Lib.run_noEscape]
    rfl
  go_enter Tryz.func40, Tryz.ntmps40
  go_wp2_with fail
  go_end0
  exact ⟨rfl, rfl⟩
/-- A builder of one's own. -/
abbrev BlAt (B b : Nat) (l : List UInt8) (w : World) : Prop := Lib.IsBuilder 62 5 B b (Lib.byteCells l) w
/-- All blocks of other types than a builder's own are as they were. -/
structure BKeep (w w' : World) : Prop where
  size : w.heap.size ≤ w'.heap.size
  blk : ∀ (b : Nat) (cs : Array Value) (T : Nat), T ≠ 62 → T ≠ 5 → w.heap[b]? = some (.cells cs T) → w'.heap[b]? = some (.cells cs T)
theorem BKeep.refl (w : World) : BKeep w w := ⟨Nat.le_refl _, fun _ _ _ _ _ h => h⟩
theorem BKeep.trans {u v w : World} (h : BKeep u v) (k : BKeep v w) : BKeep u w := ⟨Nat.le_trans h.size k.size, fun b cs T h1 h2 hb => k.blk b cs T h1 h2 (h.blk b cs T h1 h2 hb)⟩
theorem BKeep.set {w : World} {b i : Nat} {cs : Array Value} (hb : w.heap[b]? = some (.cells cs 62)) (v : Value) : BKeep w (w.setCell ⟨b, i, none⟩ v) := ⟨by simp [World.setCell], fun c cs' T h1 _ hc => (Below.heap_setCell _ _ _ _ (fun e => by
  have e : c = b := e
  rw [e, hb] at hc
  injection hc with hc
  injection hc with _ h2 _
  exact h1 h2.symm)).trans hc⟩
theorem BKeep.nkeep {w w' : World} (h : BKeep w w') : NKeep w w' := ⟨h.size, fun b cs T hT hb => h.blk b cs T (by rcases hT with rfl | rfl | rfl <;> decide) (by rcases hT with rfl | rfl | rfl <;> decide) hb⟩
theorem check_c {B b : Nat} {l : List UInt8} {w : World} (h : BlAt B b l w) :
    Calls Tryz.prog 40 #[ptr b] w fun e w' => e = .returned (.tuple #[]) ∧ Lib.BuilderAt 62 5 B b (ptr b) (Lib.byteCells l) w' ∧ Below B w w' ∧ BKeep w w' := by
  rcases h with h | h
  · obtain ⟨hB, v, hb, ho, hne⟩ := h
    refine (check_fresh b v w hb).mono ?_
    rintro e w' ⟨rfl, rfl⟩
    exact ⟨rfl, Lib.BuilderAt.used ⟨hB, v, hb, ho, hne⟩ _, (Below.refl B w).setCell (p := ⟨b, 0, none⟩) hB _, BKeep.set hb _⟩
  · refine (check_used b w h.cell0).mono ?_
    rintro e w' ⟨rfl, rfl⟩
    exact ⟨rfl, h, Below.refl B _, BKeep.refl _⟩
set_option maxHeartbeats 2000000 in
set_option maxRecDepth 100000 in
theorem bwrite_c {B b : Nat} {l : List UInt8} {w : World} (t : List UInt8) (h : BlAt B b l w) (hlen : l.length + t.length ≤ 140737488355328) (hBw : B ≤ w.heap.size) :
    Calls Tryz.prog 24 #[ptr b, .string (bs t)] w fun e w' => (∃ v, e = .returned v) ∧ BlAt B b (l ++ t) w' ∧ Below B w w' ∧ BKeep w w' := by
  obtain ⟨i0, hi, hz0, hz1, hz2⟩ := p_info info_byte
  have hck := check_c h
  have hl2 : (Lib.byteCells l).length = l.length := Lib.byteCells_length l
  clear h
  go_enter Tryz.func24, Tryz.ntmps24
  go_wp2_with fail
  refine hck.mono ?_
  rintro e w1 ⟨rfl, h1, hb1, hk1⟩
  obtain ⟨hB, v, hbk, hown, hne⟩ := h1
  have c1 : w1.cell? ⟨b, 1, none⟩ = some v := h_cell hbk 1 rfl
  have HK := Lib.hid hk1
  have HBk := Lib.hid hbk
  clear hck hk1
  have hsz : (bs t).size = t.length := bs_size t
  go_wp2_with (at_builtin; refine Lib.wpList_append_own_string _ rfl _ _ 35 9 rfl B 5 i0 Tryz.underlying35 Tryz.underlying9 hi hz0 hz1 hz2 _ _ _ rfl hown (bs t) rfl ?c3 ?c4 ?c5 ?_)
  case c3 => unfold maxLen; omega
  case c4 => omega
  case c5 => have := hb1.size; omega
  intro v' w2 hown' hgrow _
  have hb2 : w2.heap[b]? = some (.cells #[ptr b, v] 62) := (hgrow.block b (h_lt hbk) (fun e => hne e.symm)).trans hbk
  have hk2 : BKeep w1 w2 := ⟨hgrow.size, fun c cs T _ hT hc => grown_other hown hgrow hT hc⟩
  have d0 := h_cell hb2 0 rfl
  have d1 := h_cell hb2 1 rfl
  have f1 := h_fz hb2 1
  obtain ⟨ao, n', cap, rfl⟩ : ∃ ao n' cap, v' = .slice ao n' cap := by
    rcases hown'.2 with ⟨hv, _⟩ | ⟨g, cap, cur, hv, _⟩
    · exact ⟨_, _, _, hv⟩
    · exact ⟨_, _, _, hv⟩
  have HF : Hid (BlAt B b (l ++ t) (w2.setCell ⟨b, 1, none⟩ (.slice ao n' cap)) ∧ Below B w (w2.setCell ⟨b, 1, none⟩ (.slice ao n' cap)) ∧ BKeep w (w2.setCell ⟨b, 1, none⟩ (.slice ao n' cap))) := by
    refine ⟨.inr ?_, (hb1.grown hgrow (by have := hb1.size; omega) (fun k hk => (hown.lt k hk).1)).setCell (p := ⟨b, 1, none⟩) hB _, (HK.out.trans hk2).trans (BKeep.set hb2 _)⟩
    have e1 : Lib.byteCells (l ++ t) = Lib.byteCells l ++ Lib.strCells (bs t) := by simp [Lib.byteCells, Lib.strCells, bs]
    rw [e1]
    exact Lib.BuilderAt.put (T := 62) (e := 5) hB hb2 (by rw [List.length_append, Lib.strCells_length, hl2, hsz]; exact hown') (by decide)
  clear hown hown' hgrow hk2 hb1 hbk
  go_wp2_with fail
  go_ret2
  exact ⟨⟨_, rfl⟩, HF.out⟩
set_option maxHeartbeats 1000000 in
set_option maxRecDepth 100000 in
theorem bstring_c {B b : Nat} {l : List UInt8} {w : World} (h : BlAt B b l w) (h0 : l ≠ []) :
    Calls Tryz.prog 27 #[ptr b] w fun e w' => e = .returned (.string (bs l)) ∧ Below B w w' := by
  obtain ⟨p, hB, v, hbk, hown, hne⟩ : ∃ p, Lib.BuilderAt 62 5 B b p (Lib.byteCells l) w := by
    rcases h with h | h
    · exact ⟨_, h⟩
    · exact ⟨_, h⟩
  have hl0 : l.length ≠ 0 := by simpa using h0
  rw [Lib.byteCells_length] at hown
  obtain ⟨g, cap, cur, rfl, hbg, hg, hnc, hcm, hcs, htake⟩ : ∃ g cap cur, v = .slice (some ⟨g, 0, none⟩) l.length cap ∧ B ≤ g ∧ w.heap[g]? = some (.cells cur 5) ∧ l.length ≤ cap ∧ cap ≤ maxLen ∧ cur.size = cap * 1 ∧ cur.toList.take (l.length * 1) = Lib.byteCells l := by
    rcases hown.2 with ⟨_, hz⟩ | ⟨g, cap, cur, hv, r⟩
    · exact absurd hz hl0
    · exact ⟨g, cap, cur, hv, r⟩
  have c1 : w.drew.cell? ⟨b, 1, none⟩ = some (.slice (some ⟨g, 0, none⟩) l.length cap) := h_cell (w := w.drew) hbk 1 rfl
  have hSD : (Builtin.unsafeSliceData_ #[35] 87 #[.slice (some ⟨g, 0, none⟩) l.length cap]).run Tryz.prog w.drew = .ok (.pointer (some ⟨g, 0, none⟩)) w.drew :=
    Lib.run_unsafeSliceData_row _ _ _ _ _ _ (by omega)
  have hUS : (Builtin.unsafeString_ #[87, 3] 9 #[.pointer (some ⟨g, 0, none⟩), .int .i64 l.length]).run Tryz.prog w.drew = .ok (.string (bs l)) (w.drew.freeze ⟨g, 0, none⟩ l.length) := by
    refine Lib.run_unsafeString_row w.drew 87 3 9 5 Tryz.underlying87 cells_byte g cur.size (by have hg' : w.drew.heap[g]? = some (.cells cur 5 (0, 0)) := hg; simp [World.shape?, hg']) l h0 (by omega) (by unfold maxLen at hcm; omega) ?_
    intro j x hx
    have := hown.cells (g := g) rfl j (.int .u8 x.toNat) (by simp [Lib.byteCells, hx])
    exact this
  clear hown hg htake h hbk hne
  unfold maxLen at hcm
  go_enter Tryz.func27, Tryz.ntmps27
  go_wp2_with fail
  go_region
  all_goals (go_wp2_with fail; go_ret; exact ⟨rfl, Lib.below_freeze (Below.drew (Below.refl B w)) (p := ⟨g, 0, none⟩) hbg _⟩)
end Go.Proofs.YtlekfdkahlobiaaGreatDoor.Re

namespace Go.Proofs.YtlekfdkahlobiaaGreatDoor.Re
open Go.RowKit

theorem bits_15 : ∀ c : Nat, c < 256 → bits BinOp.and IntKind.i64 (c : Int) 15 = ((c % 16 : Nat) : Int) := by decide +kernel
set_option maxHeartbeats 1000000 in
set_option maxRecDepth 100000 in
theorem twoD_c (c : Nat) (w : World) (hc : c < 256) :
    Calls Tryz.prog 61 #[.int .i64 (c : Int)] w fun e w' => e = .returned (.string (bs (twoS c))) ∧ Below w.heap.size w w' := by
  obtain ⟨a, HA⟩ : ∃ a : Nat, Hid (a = c / 16) := ⟨_, rfl⟩
  obtain ⟨b, HB⟩ : ∃ b : Nat, Hid (b = c % 16) := ⟨_, rfl⟩
  have e1 : (c : Int) / 16 = (a : Int) := by rw [HA.out]; rfl
  have eb : bits BinOp.and IntKind.i64 (c : Int) 15 = (b : Int) := by rw [bits_15 c hc, HB.out]
  have wa : IntKind.i64.wrap (a : Int) = (a : Int) := IntWalk.i64_in _ (by have := HA.out; omega)
  have ha : a < signs.size := by have := HA.out; show a < 16; omega
  have hb : b < signs.size := by have := HB.out; show b < 16; omega
  have HT : Hid (twoS c = [signs[a], signs[b]]) := by
    show _ = _
    rw [signs_at a ha, signs_at b hb, HA.out, HB.out]; rfl
  go_enter Tryz.func61, Tryz.ntmps61
  go_wp2_with fail
  rw [show (⟨#[48, 49, 50, 51, 52, 53, 54, 55, 56, 57, 97, 98, 99, 100, 101, 102]⟩ : ByteArray) = signs from rfl]
  generalize signs = S at ha hb HT ⊢
  have ba : (a : Int) < (S.size : Int) := by omega
  have bb : (b : Int) < (S.size : Int) := by omega
  have cv : ∀ u : World, (convert 35 9 (.slice (some ⟨u.heap.size, 0, none⟩) 2 2)).run Tryz.prog (u.alloc (.cells #[.int .u8 (S[a].toNat : Int), .int .u8 (S[b].toNat : Int)] 5)).drew = .ok (.string ⟨#[S[a], S[b]]⟩) (u.alloc (.cells #[.int .u8 (S[a].toNat : Int), .int .u8 (S[b].toNat : Int)] 5)).drew := fun u => conv2 u.drew S[a] S[b]
  go_region
  all_goals
    go_wp2_with fail
    go_ret
    exact ⟨by rw [HT.out]; rfl, below_drew ((Below.refl _ w).alloc (Nat.le_refl _) _)⟩
end Go.Proofs.YtlekfdkahlobiaaGreatDoor.Re

namespace Go.Proofs.YtlekfdkahlobiaaGreatDoor.Re
open Go.RowKit

/-- What Parse answers. -/
def PsOut (ReAt : World → Value → Nd → Prop) (w : World) (r : Except Nat Nd) (e : Ending) (w' : World) : Prop :=
  (match r with
  | .ok x => ∃ v, e = .returned (.tuple #[v, .int .i64 0]) ∧ isPtr w' v ∧ ReAt w' v x
  | .error n => e = .returned (.tuple #[.pointer none, .int .i64 (n : Int)])) ∧ Below w.heap.size w w'
/-- A node that is not too great. -/
def OkN (x : Nd) : Prop := x.wf = true ∧ x.size ≤ 30000
/-- What is asked of the program. Amb: what is known of package variables. -/
structure Says (Amb : World → Prop) (ReAt : World → Value → Nd → Prop) : Prop where
  keep : ∀ w w', Amb w → Below w.heap.size w w' → Amb w'
  keepR : ∀ w w' v x, ReAt w v x → Below w.heap.size w w' → ReAt w' v x
  parse : ∀ (s : ByteArray) (ext fold : Bool) (w : World), Amb w → s.size ≤ 1048576 → Calls Tryz.prog 7 #[.string s, .bool ext, .bool fold] w (PsOut ReAt w (parseS ext fold s.data.toList))
  text : ∀ (v : Value) (x : Nd) (w : World), Amb w → isPtr w v → ReAt w v x → OkN x → Calls Tryz.prog 11 #[v] w fun e w' => e = .returned (.string (bs x.text)) ∧ Below w.heap.size w w'
section
variable {Amb : World → Prop} {ReAt : World → Value → Nd → Prop}
theorem isPtr.below {w w' : World} {v : Value} (h : isPtr w v) (hb : Below w.heap.size w w') : isPtr w' v := by
  obtain ⟨b, rfl, hl⟩ := h
  exact ⟨b, rfl, Nat.lt_of_lt_of_le hl hb.size⟩
/-- What the law's told answers. -/
def toldV (r : Except Nat Nd) : Value := match r with
  | .ok x => .tuple #[.string (bs x.text), .bool true]
  | .error _ => .tuple #[.string ⟨#[]⟩, .bool false]
theorem toldV_ok {r : Except Nat Nd} {t : List UInt8} (h : okText r = some t) : toldV r = .tuple #[.string ⟨t.toArray⟩, .bool true] := by
  cases r with
  | ok x => cases h; rfl
  | error n => cases h
theorem toldV_no {r : Except Nat Nd} {n : Nat} (h : errS r = n) (hn : n ≠ 0) : toldV r = .tuple #[.string ⟨#[]⟩, .bool false] ∧ r = .error n := by
  cases r with
  | ok x => exact absurd h.symm hn
  | error m => cases h; exact ⟨rfl, rfl⟩
theorem err_pos {ext fold : Bool} {s : List UInt8} {n : Nat} (h : parseS ext fold s = .error n) : n = 20 ∨ n = 12 := by
  unfold parseS at h
  split at h
  · cases h; exact .inl rfl
  · split at h
    · cases h; exact .inr rfl
    · cases h
set_option maxHeartbeats 1000000 in
set_option maxRecDepth 100000 in
theorem told_c (S : Says Amb ReAt) (s : ByteArray) (ext fold : Bool) (w : World) (hA : Amb w) (hs : s.size ≤ 1048576) :
    Calls Tryz.prog 13 #[.string s, .bool ext, .bool fold] w fun e w' => e = .returned (toldV (parseS ext fold s.data.toList)) ∧ Below w.heap.size w w' := by
  have hp := S.parse s ext fold w hA hs
  cases hR : parseS ext fold s.data.toList with
  | ok x =>
    rw [hR] at hp
    obtain ⟨hw, hz, _⟩ := parse_wf hR
    have hok : Hid (OkN x) := ⟨hw, by omega⟩
    have HS := Lib.hid S
    clear hR hw hz S
    go_enter Tryz.func13, Tryz.ntmps13
    go_wp2_with (first
      | (go_at_call 7; refine hp.mono ?_; rintro e w1 ⟨⟨v, rfl, hi, hr⟩, hB⟩; have ht := HS.out.text v x w1 (HS.out.keep _ _ hA hB) hi hr hok.out; obtain ⟨b, rfl, _⟩ := hi; clear hp hr)
      | (go_at_call 11; refine ht.mono ?_; rintro e w2 ⟨rfl, hB2⟩))
    go_ret2
    exact ⟨rfl, hB.trans (hB2.mono hB.size)⟩
  | error n =>
    rw [hR] at hp
    have hn : ((n : Int) != 0) = true := by rcases err_pos hR with rfl | rfl <;> rfl
    clear hR S
    go_enter Tryz.func13, Tryz.ntmps13
    go_wp2_with (first
      | (go_at_call 7; refine hp.mono ?_; rintro e w1 ⟨rfl, hB⟩))
    go_ret2
    exact ⟨rfl, hB⟩
set_option maxHeartbeats 2000000 in
set_option maxRecDepth 100000 in
theorem awake_c (S : Says Amb ReAt) (w : World) (hA : Amb w) :
    Calls Tryz.prog 6 #[] w fun e w' => e = .returned (.bool true) ∧ Below w.heap.size w w' := by
  have k := S.keep
  have c1 := fun u (hu : Amb u) => told_c S ⟨#[97, 98, 42]⟩ false false u hu (by decide)
  rw [toldV_ok ex_1] at c1
  have c2 := fun u (hu : Amb u) => told_c S ⟨#[40, 97, 124, 91, 98, 45, 100, 93, 41, 43, 36]⟩ true false u hu (by decide)
  rw [toldV_ok ex_2] at c2
  have c3 := fun u (hu : Amb u) => told_c S ⟨#[97]⟩ true true u hu (by decide)
  rw [toldV_ok ex_3] at c3
  have c4 := fun u (hu : Amb u) => told_c S ⟨#[42, 97]⟩ false false u hu (by decide)
  rw [toldV_ok ex_4] at c4
  have c5 := fun u (hu : Amb u) => told_c S ⟨#[42, 97]⟩ true false u hu (by decide)
  rw [(toldV_no ex_5 (by decide)).1] at c5
  have c6 := fun u (hu : Amb u) => told_c S ⟨#[91, 93, 97, 45, 93]⟩ false false u hu (by decide)
  rw [toldV_ok ex_6] at c6
  have c7 := fun u (hu : Amb u) => S.parse ⟨#[91, 122, 45, 97, 93]⟩ true false u hu (by decide)
  rw [(toldV_no ex_7 (by decide)).2] at c7
  clear S
  go_enter Tryz.func6, Tryz.ntmps6
  go_wp2_with fail
  refine (c1 w hA).mono ?_
  rintro e w1 ⟨rfl, b1⟩
  have a1 := k _ _ hA b1
  clear c1
  go_wp2_with fail
  refine (c2 w1 a1).mono ?_
  rintro e w2 ⟨rfl, b2⟩
  have a2 := k _ _ a1 b2
  clear c2
  go_wp2_with fail
  refine (c3 w2 a2).mono ?_
  rintro e w3 ⟨rfl, b3⟩
  have a3 := k _ _ a2 b3
  clear c3
  go_wp2_with fail
  refine (c4 w3 a3).mono ?_
  rintro e w4 ⟨rfl, b4⟩
  have a4 := k _ _ a3 b4
  clear c4
  go_wp2_with fail
  refine (c5 w4 a4).mono ?_
  rintro e w5 ⟨rfl, b5⟩
  have a5 := k _ _ a4 b5
  clear c5
  go_wp2_with fail
  refine (c6 w5 a5).mono ?_
  rintro e w6 ⟨rfl, b6⟩
  have a6 := k _ _ a5 b6
  clear c6
  go_wp2_with fail
  refine (c7 w6 a6).mono ?_
  rintro e w7 ⟨rfl, b7⟩
  have HB : Hid (Below w.heap.size w w7) := by
    have x2 := b1.trans (b2.mono b1.size)
    have x3 := x2.trans (b3.mono x2.size)
    have x4 := x3.trans (b4.mono x3.size)
    have x5 := x4.trans (b5.mono x4.size)
    have x6 := x5.trans (b6.mono x5.size)
    exact x6.trans (b7.mono x6.size)
  clear c7 b1 b2 b3 b4 b5 b6 b7 a1 a2 a3 a4 a5 a6
  go_wp2_with fail
  go_ret
  exact ⟨rfl, HB.out⟩
end
end Go.Proofs.YtlekfdkahlobiaaGreatDoor.Re

namespace Go.Proofs.YtlekfdkahlobiaaGreatDoor.Re
open Go.Proofs.YtlekfdkahlobiaaGreatDoor.Tr
open Go.RowKit

theorem by_at (s : ByteArray) (k : Nat) (h : k < s.size) : s.data.toList[k]? = some s[k] := by
  rw [List.getElem?_eq_getElem (by simpa using h)]; rfl
theorem u8y {a c : UInt8} (m : Int) (hm : (c.toNat : Int) = m) (h : a = c) : ((a.toNat : Int) == m) = true ∧ (a.toNat : Int) = m := by
  subst h; subst hm; exact ⟨by simp, rfl⟩
theorem u8n {a c : UInt8} (m : Int) (hm : (c.toNat : Int) = m) (h : a ≠ c) : ((a.toNat : Int) == m) = false ∧ ¬ (a.toNat : Int) = m := by
  have e : ¬ (a.toNat : Int) = m := fun e => h (UInt8.toNat_inj.1 (by omega))
  exact ⟨by rw [beq_eq_false_iff_ne]; exact e, e⟩
/-- What is asked of Digits, to ten, of small numbers. -/
def DigC (Amb : World → Prop) : Prop := ∀ (n : Nat) (w : World), Amb w → n ≤ 255 → Calls Tryz.prog 15 #[.int .i64 (n : Int), .int .i64 10] w fun e w' => e = .returned (.string (bs (dgB 10 n))) ∧ Below w.heap.size w w'
/-- A slice of expressions. -/
def RowR (ReAt : World → Value → Nd → Prop) (w : World) (v : Value) (l : List (Value × Nd)) : Prop :=
  (v = .slice none 0 0 ∧ l = []) ∨ ∃ b off cap, v = .slice (some ⟨b, off, none⟩) l.length cap ∧ (l.length ≤ cap ∧ cap ≤ 9223372036854775807) ∧ b < w.heap.size ∧ ∀ (j : Nat) (p : Value × Nd), l[j]? = some p → w.cell? ⟨b, off + j, none⟩ = some p.1 ∧ isPtr w p.1 ∧ ReAt w p.1 p.2
def SizeC (Amb : World → Prop) (ReAt : World → Value → Nd → Prop) : Prop := ∀ (v : Value) (x : Nd) (w : World), Amb w → isPtr w v → ReAt w v x → x.wf = true → x.size ≤ 10000 → Calls Tryz.prog 16 #[v] w fun e w' => e = .returned (.int .i64 (x.size : Int)) ∧ Below w.heap.size w w'
def AnyC (Amb : World → Prop) (ReAt : World → Value → Nd → Prop) : Prop := ∀ (v : Value) (l : List (Value × Nd)) (w : World), Amb w → RowR ReAt w v l → l.length ≤ 1048576 → (∀ p ∈ l, p.2.wf = true ∧ p.2.size ≤ 10000) → Calls Tryz.prog 17 #[v] w fun e w' => ∃ v', e = .returned v' ∧ isPtr w' v' ∧ ReAt w' v' (anyS (l.map Prod.snd)) ∧ Below w.heap.size w w'
def WholeC (Amb : World → Prop) (ReAt : World → Value → Nd → Prop) : Prop := ∀ (v : Value) (x : Nd) (w : World), Amb w → isPtr w v → ReAt w v x → OkN x → Calls Tryz.prog 18 #[v] w fun e w' => ∃ v', e = .returned v' ∧ isPtr w' v' ∧ ReAt w' v' (wholeS x) ∧ Below w.heap.size w w'

def ClsOut (s : List UInt8) (w : World) (e : Ending) (w' : World) : Prop := ∃ b, e = .returned (.bool b) ∧ (b = false → noCls s) ∧ w' = w
set_option maxHeartbeats 4000000 in
set_option maxRecDepth 100000 in
theorem classes_c (s : ByteArray) (w : World) (hs : s.size ≤ 1048576) :
    Calls Tryz.prog 14 #[.string s] w (ClsOut s.data.toList w) := by
  go_enter Tryz.func14, Tryz.ntmps14
  go_wp2_with fail
  go_loop [3] (fun vi => ∃ k : Nat, k ≤ s.size ∧ vi = .int .i64 k ∧ Hid (∀ i : Nat, i < k → s.data.toList[i]? = some 91 → s.data.toList[i + 1]? ≠ some 58 ∧ s.data.toList[i + 1]? ≠ some 46 ∧ s.data.toList[i + 1]? ≠ some 61)) (fun vi => s.size - (intOf vi).toNat)
  case atStart => exact ⟨0, by omega, rfl, (show ∀ i : Nat, i < 0 → _ from fun i hi => by omega)⟩
  case round =>
    obtain ⟨k, hk, rfl, HI⟩ := hrel
    by_cases hlt : k + 1 < s.size
    · have g0 : (k : Int) + 1 < (s.size : Int) := by omega
      have HK : Hid (∀ P : Prop, (s[k] = 91 → s[k + 1] ≠ 58 ∧ s[k + 1] ≠ 46 ∧ s[k + 1] ≠ 61) → ∀ i : Nat, i < k + 1 → s.data.toList[i]? = some 91 → s.data.toList[i + 1]? ≠ some 58 ∧ s.data.toList[i + 1]? ≠ some 46 ∧ s.data.toList[i + 1]? ≠ some 61) := by
        intro _ h i hi h1
        by_cases hik : i < k
        · exact HI.out i hik h1
        · obtain rfl : i = k := by omega
          rw [by_at s i (by omega)] at h1
          rw [by_at s (i + 1) hlt]
          have := h (Option.some.inj h1)
          exact ⟨fun e => this.1 (Option.some.inj e), fun e => this.2.1 (Option.some.inj e), fun e => this.2.2 (Option.some.inj e)⟩
      by_cases h1 : s[k] = 91
      · obtain ⟨e1, f1⟩ := u8y 91 rfl h1
        by_cases h2 : s[k + 1] = 58
        · obtain ⟨e2, f2⟩ := u8y 58 rfl h2
          clear h1 h2
          go_wp2_with fail
          go_ret
          exact ⟨true, rfl, (fun h => by cases h), rfl⟩
        obtain ⟨e2, f2⟩ := u8n 58 rfl h2
        by_cases h3 : s[k + 1] = 46
        · obtain ⟨e3, f3⟩ := u8y 46 rfl h3
          clear h1 h2 h3
          go_wp2_with fail
          go_ret
          exact ⟨true, rfl, (fun h => by cases h), rfl⟩
        obtain ⟨e3, f3⟩ := u8n 46 rfl h3
        by_cases h4 : s[k + 1] = 61
        · obtain ⟨e4, f4⟩ := u8y 61 rfl h4
          clear h1 h2 h3 h4
          go_wp2_with fail
          go_ret
          exact ⟨true, rfl, (fun h => by cases h), rfl⟩
        obtain ⟨e4, f4⟩ := u8n 61 rfl h4
        have HN := Lib.hid (HK.out True fun _ => ⟨h2, h3, h4⟩)
        clear h1 h2 h3 h4 HK HI
        go_wp2_with fail
        exact ⟨⟨k + 1, by omega, by go_num, HN⟩, by simp [intOf]; omega⟩
      · obtain ⟨e1, f1⟩ := u8n 91 rfl h1
        have HN := Lib.hid (HK.out True fun h => absurd h h1)
        clear h1 HK HI
        go_wp2_with fail
        exact ⟨⟨k + 1, by omega, by go_num, HN⟩, by simp [intOf]; omega⟩
    · have g0 : ¬ (k : Int) + 1 < (s.size : Int) := by omega
      have HN : Hid (noCls s.data.toList) := by
        intro i h1
        have hi := lt_of_some h1
        by_cases hik : i < k
        · exact HI.out i hik h1
        · have hi2 : i < s.size := hi
          have e : s.data.toList[i + 1]? = none := List.getElem?_eq_none (show s.size ≤ i + 1 by omega)
          rw [e]
          exact ⟨by simp, by simp, by simp⟩
      clear HI
      go_wp2_with fail
      go_ret
      exact ⟨false, rfl, fun _ => HN.out, rfl⟩

section
variable {Amb : World → Prop} {ReAt : World → Value → Nd → Prop}
theorem toldV_shape (r : Except Nat Nd) : ∃ t b, toldV r = .tuple #[.string t, .bool b] ∧ ∀ x, r = .ok x → t = bs x.text ∧ b = true := by
  cases r with
  | ok x => exact ⟨_, _, rfl, fun y h => by cases h; exact ⟨rfl, rfl⟩⟩
  | error n => exact ⟨_, _, rfl, fun y h => by cases h⟩
theorem ba_ext {a b : ByteArray} (h : a.data.toList = b.data.toList) : a = b := by
  cases a; cases b; congr; exact Array.toList_inj.1 h
theorem data_app (a b : ByteArray) : (a ++ b).data.toList = a.data.toList ++ b.data.toList := by
  rw [ByteArray.data_append, Array.toList_append]
abbrev strC (p q : ByteArray) : ByteArray := ⟨#[40]⟩ ++ p ++ ⟨#[41, 40]⟩ ++ q ++ ⟨#[41]⟩
abbrev strA (p q : ByteArray) : ByteArray := ⟨#[40]⟩ ++ p ++ ⟨#[41, 124, 40]⟩ ++ q ++ ⟨#[41]⟩
abbrev strR (p a b : ByteArray) : ByteArray := ⟨#[40]⟩ ++ p ++ ⟨#[41, 123]⟩ ++ a ++ ⟨#[44]⟩ ++ b ++ ⟨#[125]⟩
theorem strC_list (p q : ByteArray) : (strC p q).data.toList = 40 :: (p.data.toList ++ 41 :: 40 :: (q.data.toList ++ [41])) := by
  simp only [strC, data_app]; simp
theorem strA_list (p q : ByteArray) : (strA p q).data.toList = 40 :: (p.data.toList ++ 41 :: 124 :: 40 :: (q.data.toList ++ [41])) := by
  simp only [strA, data_app]; simp
theorem strR_list (p : ByteArray) (a b : List UInt8) : (strR p (bs a) (bs b)).data.toList = 40 :: (p.data.toList ++ 41 :: 123 :: (a ++ 44 :: (b ++ [125]))) := by
  simp only [strR, data_app, bs]; simp
theorem ba_size (a : ByteArray) : a.size = a.data.toList.length := rfl
theorem strC_size (p q : ByteArray) : (strC p q).size = p.size + q.size + 4 := by
  rw [ba_size, strC_list, ba_size p, ba_size q]; simp only [List.length_cons, List.length_append, List.length_nil]; omega
theorem strA_size (p q : ByteArray) : (strA p q).size = p.size + q.size + 5 := by
  rw [ba_size, strA_list, ba_size p, ba_size q]; simp only [List.length_cons, List.length_append, List.length_nil]; omega
theorem strR_size (p : ByteArray) (a b : List UInt8) : (strR p (bs a) (bs b)).size = p.size + a.length + b.length + 5 := by
  rw [ba_size, strR_list, ba_size p]; simp only [List.length_cons, List.length_append, List.length_nil]; omega
theorem tcat_eq (x y : Nd) : bs (ndK 4 [x, y]).text = ⟨#[40]⟩ ++ bs x.text ++ bs y.text ++ ⟨#[41]⟩ := ba_ext (by simp only [data_app, bs, text_cat]; simp)
theorem talt_eq (x y : Nd) : bs (ndK 5 [x, y]).text = ⟨#[40]⟩ ++ bs x.text ++ ⟨#[124]⟩ ++ bs y.text ++ ⟨#[41]⟩ := ba_ext (by simp only [data_app, bs, text_alt]; simp)
theorem trep_eq (m n : Nat) (x : Nd) : bs (repN (m : Int) (n : Int) x).text = bs x.text ++ ⟨#[123]⟩ ++ bs (dgB 10 m) ++ ⟨#[44]⟩ ++ bs (dgB 10 n) ++ ⟨#[125]⟩ := ba_ext (by simp only [data_app, bs, text_rep]; simp)
theorem twhole_eq (x : Nd) : bs (wholeS x).text = ⟨#[40, 94]⟩ ++ bs x.text ++ ⟨#[36, 41]⟩ := ba_ext (by simp only [data_app, bs, text_whole]; simp)
theorem tnone_eq : bs (anyS []).text = ⟨#[60, 62]⟩ := by rw [text_none]; rfl
theorem cat_told {p q : List UInt8} {x y : Nd} {fold : Bool} (hp : noCls p) (hq : noCls q) (h : parseS true fold p = .ok x) (h2 : parseS true fold q = .ok y) (hz : x.size + y.size < 9999) : parseS true fold (40 :: (p ++ 41 :: 40 :: (q ++ [41]))) = .ok (ndK 4 [x, y]) :=
  parse_of (read_cat hp hq (parse_wf h).2.2 (parse_wf h2).2.2) (by rw [size_two (by decide)]; omega)
theorem alt_told {p q : List UInt8} {x y : Nd} {fold : Bool} (hp : noCls p) (hq : noCls q) (h : parseS true fold p = .ok x) (h2 : parseS true fold q = .ok y) (hz : x.size + y.size < 9999) : parseS true fold (40 :: (p ++ 41 :: 124 :: 40 :: (q ++ [41]))) = .ok (ndK 5 [x, y]) :=
  parse_of (read_alt hp hq (parse_wf h).2.2 (parse_wf h2).2.2) (by rw [size_two (by decide)]; omega)
theorem rep_told {p : List UInt8} {x : Nd} {m n : Nat} {fold : Bool} (hp : noCls p) (h : parseS true fold p = .ok x) (hm : m ≤ n) (hn : n ≤ 255) (hz : x.size * (n + 1) < 9999) : parseS true fold (40 :: (p ++ 41 :: 123 :: (dgB 10 m ++ 44 :: (dgB 10 n ++ [125])))) = .ok (repN (m : Int) (n : Int) x) :=
  parse_of (read_rep hp (parse_wf h).2.2 (times_brace hm hn)) (by have := size_rep (m := m) (n := n) x; omega)
theorem ok_alt {x y : Nd} (hx : x.wf = true ∧ x.size ≤ 10000) (hy : y.wf = true ∧ y.size ≤ 10000) : OkN (ndK 5 [x, y]) :=
  ⟨wf_join (k := 5) (.inr rfl) (l := [x, y]) (fun z hz => by simp at hz; rcases hz with rfl | rfl; exact hx.1; exact hy.1), by rw [size_two (by decide)]; omega⟩
theorem ok_whole {x : Nd} (hx : x.wf = true ∧ x.size ≤ 10000) : OkN (wholeS x) :=
  ⟨wf_join (k := 4) (.inl rfl) (l := [beginN, x, endN]) (fun z hz => by simp at hz; rcases hz with rfl | rfl | rfl; rfl; exact hx.1; rfl), by
    show Nd.size ⟨4, noB, 0, 0, [beginN, x, endN]⟩ ≤ _
    rw [Nd.size, if_neg (by decide)]
    show 1 + (1 + (x.size + (1 + 0))) ≤ _
    omega⟩
theorem bs_le {x : Nd} (hx : x.wf = true ∧ x.size ≤ 10000) : (bs x.text).size ≤ 20000000 := by
  have := text_len x hx.1
  rw [bs_size]; omega
end
end Go.Proofs.YtlekfdkahlobiaaGreatDoor.Re
