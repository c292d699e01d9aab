/- What stands in memory while proc.Run lays its three descriptors down and runs its machine. -/
import Derived.Test.YteimilnecahifaaGreatDoorMWriteB
import Derived.Test.YteimilnecahifaaGreatDoorMStepB
import Derived.Test.YteimilnecahifaaGreatDoorYMap
import Derived.Test.YteimilnecahifaaGreatDoorMGoF
import Derived.Test.YteimilnecahifaaGreatDoorShelf3
import Derived.WalkKit
import Derived.Lib.Hide
import Derived.RangeFuncNested
import Derived.RangeFuncBox
import Derived.Sort.MapsRangeIn
namespace Go.Proofs.YteimilnecahifaaGreatDoor
open Go.RowKit Go.Shelf Go.Maps

abbrev resV : Array Value := #[.slice none 0 0, .slice none 0 0, .int .i64 0, .slice none 0 0, .int .i64 0, .int .i64 0, .int .i64 0]
/-- What nobody turns. -/
structure RunB (n0 : Nat) (w : World) (th t rt rm fm : Nat) (D : DataW Value) (av : Value) (sa : List ByteArray) : Prop where
  map : w.ownsMap Tryz.prog 3 R th 3 D
  tr : Tr0 n0 w t rt rm fm
  av : w.ownsRow 0 9 1 av sa.length (sa.map .string)
  res : w.heap[n0 + 1]? = some (.cells resV 30)
def Far (n0 th t rt rm fm : Nat) (av : Value) (b : Nat) : Prop := b ≠ th ∧ b ≠ t ∧ b ≠ rt ∧ b ≠ rm ∧ b ≠ fm ∧ b ≠ n0 + 1 ∧ av.ownBlock ≠ some b
section
variable {n0 : Nat} {w w' : World} {th t rt rm fm : Nat} {D : DataW Value} {av : Value} {sa : List ByteArray}
theorem RunB.turn (h : RunB n0 w th t rt rm fm D av sa) {S : List Nat} (hT : Turn S w w') (hS : ∀ b ∈ S, Far n0 th t rt rm fm av b) : RunB n0 w' th t rt rm fm D av sa :=
  ⟨hT.map h.map (fun e => (hS _ e).1 rfl), h.tr.turn hT ⟨fun e => (hS _ e).2.1 rfl, fun e => (hS _ e).2.2.1 rfl, fun e => (hS _ e).2.2.2.1 rfl, fun e => (hS _ e).2.2.2.2.1 rfl⟩, own_turn h.av hT (fun _ hg e => (hS _ e).2.2.2.2.2.2 hg), hT.ob h.res (fun e => (hS _ e).2.2.2.2.2.1 rfl)⟩
theorem map_block {P : Program} {k b n : Nat} {RR : Value → Option (DataW Value × List MemPlace)} {DD : DataW Value} (h : w.ownsMap P k RR b n DD) : ∃ es c, w.heap[b]? = some (.map es c) := by
  obtain ⟨es, c, he, _⟩ := h
  exact ⟨es, c, he⟩
theorem RunB.far (h : RunB n0 w th t rt rm fm D av sa) {b T : Nat} {cs : Array Value} {fz : Nat × Nat} (hb : w.heap[b]? = some (.cells cs T fz)) (h1 : T ≠ 159) (h2 : T ≠ 162) (h3 : T ≠ 30) (h4 : T ≠ 9) : Far n0 th t rt rm fm av b := by
  obtain ⟨e1, c1, m1⟩ := map_block h.map
  obtain ⟨e2, c2, m2⟩ := map_block h.tr.hM
  obtain ⟨e3, c3, m3⟩ := map_block h.tr.hF
  refine ⟨h_ne_map hb m1, h_ne hb h.tr.hT h1, h_ne hb h.tr.hN h2, h_ne_map hb m2, h_ne_map hb m3, h_ne hb h.res h3, fun e => ?_⟩
  exact row_ne h.av hb h4 e
theorem RunB.new (h : RunB n0 w th t rt rm fm D av sa) {b : Nat} (hb : w.heap.size ≤ b) : Far n0 th t rt rm fm av b := by
  have a1 := h.map.lt
  have a2 := h.tr.hT.lt
  have a3 := h.tr.hN.lt
  have a4 := h.tr.hM.lt
  have a5 := h.tr.hF.lt
  have a6 := h_lt h.res
  exact ⟨by omega, by omega, by omega, by omega, by omega, by omega, fun e => by have := own_lt h.av e; omega⟩
end

theorem h_cells (w : World) (cs : Array Value) (T i : Nat) : (w.alloc (.cells cs T)).cell? ⟨w.heap.size, i, none⟩ = cs[i]? := World.cell?_alloc_new w cs T i
theorem row_not_map {w : World} {base e n b : Nat} {v : Value} {xs : List Value} {es : Array MapEntry} {c : Nat} (h : w.ownsRow base e 1 v n xs) (hb : w.heap[b]? = some (.map es c)) : v.ownBlock ≠ some b := fun hv => by
  rcases h.2 with ⟨rfl, _⟩ | ⟨g, cap, cur, rfl, _, hg, _⟩
  · simp [Value.ownBlock] at hv
  · obtain rfl : g = b := by simpa [Value.ownBlock] using hv
    rw [hg] at hb
    cases hb
/-- The kernel's things, when all three are made. -/
def D3 (so s1 s2 : Nat) : DataW Value := ((mE.put (ik 1) (.held (iSo so))).put (ik 2) (.held (iSk s1))).put (ik 3) (.held (iSk s2))
theorem isMap_mE : IsMap mE := ⟨_, rfl⟩
theorem D3_look (so s1 s2 : Nat) : lookT (D3 so s1 s2) (ik 1) = iSo so ∧ lookT (D3 so s1 s2) (ik 2) = iSk s1 ∧ lookT (D3 so s1 s2) (ik 3) = iSk s2 := by
  refine ⟨?_, ?_, ?_⟩
  · rw [D3, lookT_put_other (by simp [ik]), lookT_put_other (by simp [ik])]
    exact lookT_put_same isMap_mE (by trivial) _
  · rw [D3, lookT_put_other (by simp [ik])]
    exact lookT_put_same (isMap_mE.put _ _) (by trivial) _
  · exact lookT_put_same ((isMap_mE.put _ _).put _ _) (by trivial) _
/-- So many descriptors are laid down. -/
def putI (G : Gh) (n : Nat) : Array Value := match n with | 0 => #[.nilIface, .nilIface, .nilIface, .nilIface, .nilIface, .nilIface, .nilIface, .nilIface, .nilIface, .nilIface, .nilIface, .nilIface, .nilIface, .nilIface, .nilIface, .nilIface] | 1 => #[iSo G.so, .nilIface, .nilIface, .nilIface, .nilIface, .nilIface, .nilIface, .nilIface, .nilIface, .nilIface, .nilIface, .nilIface, .nilIface, .nilIface, .nilIface, .nilIface] | 2 => #[iSo G.so, iSk G.s1, .nilIface, .nilIface, .nilIface, .nilIface, .nilIface, .nilIface, .nilIface, .nilIface, .nilIface, .nilIface, .nilIface, .nilIface, .nilIface, .nilIface] | _ => has3 G
def gh0 (p kn tb so s1 s2 th fb rb kin : Nat) (tr fv av ev : Value) (l : List (Int × Int)) (now l1 l2 l3 : Int) : Gh :=
  { p := p, m := 0, kn := kn, tb := tb, so := so, s1 := s1, s2 := s2, th := th, fb := fb, rb := rb, an := 0, pg := 0, ab := 0, kin := kin, base := 0, tr := tr, fv := fv, main := .nilFunc, args := av, env := ev, box := .nilIface, ansv := .nilFunc, faults := l, now := now, last := 3, l1 := l1, l2 := l2, l3 := l3, pc := 0, cwd := sE, isChild := false, first := .read 0, ans := ⟨0, [], 0⟩ }
/-- What stands while they are laid down. -/
structure PutS (w0 : World) (G : Gh) (w : World) (n : Nat) (t rt rm fm : Nat) (D : DataW Value) (sa : List ByteArray) (ins : List UInt8) (rv : Value) : Prop where
  fs : FS G w (putI G n) (if 0 < n then 1 else 0) (if 1 < n then 1 else 0) (if 2 < n then 1 else 0) rv (.slice none 0 0) (.slice none 0 0)
  kn : KnAt w G.kn G.tr G.fv 0 G.now G.th 3
  fl : Fl w G.fv G.fb G.faults
  pr : PrAt w G.p G.kn G.tb G.args G.env sE G.l1 G.l2 G.l3 0 0 .nilIface G.kin false (.pointer none)
  row : w.ownsRow 0 5 1 rv ins.length (u8s ins)
  rb : ∀ b, rv.ownBlock = some b → b = G.rb
  rlt : G.rb < w.heap.size ∧ G.fb < w.heap.size
  b : RunB w0.heap.size w G.th t rt rm fm D G.args sa
  since : Turn [] w0 w
  ge : w0.heap.size ≤ G.p ∧ w0.heap.size ≤ G.kn ∧ w0.heap.size ≤ G.tb ∧ w0.heap.size ≤ G.so ∧ w0.heap.size ≤ G.s1 ∧ w0.heap.size ≤ G.s2
  look : lookT D (ik 1) = iSo G.so ∧ lookT D (ik 2) = iSk G.s1 ∧ lookT D (ik 3) = iSk G.s2
  s12 : G.s1 ≠ G.s2
  fne : G.fb ≠ G.kn ∧ G.fb ≠ G.so ∧ G.fb ≠ G.s1 ∧ G.fb ≠ G.s2 ∧ G.fb ≠ G.p ∧ G.fb ≠ G.tb
  rne : G.rb ≠ G.kn ∧ G.rb ≠ G.so ∧ G.rb ≠ G.s1 ∧ G.rb ≠ G.s2 ∧ G.rb ≠ G.p
/-- What start is handed. -/
structure Rdy (G : Gh) (w : World) (ins : List UInt8) (sa : List ByteArray) (rv : Value) : Prop where
  pr : PrAt w G.p G.kn G.tb G.args G.env sE G.l1 G.l2 G.l3 0 0 .nilIface G.kin false (.pointer none)
  ki : KI G w ⟨0, ins, [], []⟩ rv (.slice none 0 0) (.slice none 0 0)
  av : w.ownsRow 0 9 1 G.args sa.length (sa.map .string)
  lt : G.p < w.heap.size ∧ G.kn < w.heap.size ∧ G.tb < w.heap.size ∧ G.so < w.heap.size ∧ G.s1 < w.heap.size ∧ G.s2 < w.heap.size ∧ G.th < w.heap.size ∧ G.fb < w.heap.size ∧ G.rb < w.heap.size
  fm : G.fb ≠ G.p ∧ G.rb ≠ G.p
  cw : G.cwd = sE ∧ G.box = .nilIface ∧ G.isChild = false
/-- What start is to answer: a machine whose main waits at its first call. -/
def Started (G : Gh) (w : World) (f0 : Nat) (u0 : Value) (c0 : KCall) (e : Ending) (w' : World) : Prop :=
  ∃ m base nx, e = .returned (ptr m) ∧ w.heap.size ≤ m ∧ m < base ∧ base ≤ w'.heap.size ∧ PrAt w' G.p G.kn G.tb G.args G.env sE G.l1 G.l2 G.l3 0 0 .nilIface G.kin false (.pointer none) ∧ McAt w' m G.p (.func (.func f0) #[u0] #[]) (.slice none 0 0) 0 nx false 0 false 0 ∧ (∃ f y z, nx = .func f y z) ∧ Wt { G with m := m, base := base } w' c0 nx ∧ Turn [G.p] w w'
/-- A call that can be the first. -/
def CallOk (c : KCall) : Prop := (c.isRead = true → 1 ≤ c.most) ∧ (c.isRead = false → c.b ≠ [] ∧ c.b.length ≤ 1073741824)
section
variable {w0 : World} {G : Gh} {w w' : World} {n n' : Nat} {t rt rm fm : Nat} {D : DataW Value} {sa : List ByteArray} {ins : List UInt8} {rv : Value}
theorem turn_since {S : List Nat} (h : Turn [] w0 w) (hT : Turn S w w') (hS : ∀ b ∈ S, w0.heap.size ≤ b) : Turn [] w0 w' :=
  ⟨hT.os.trans h.os, hT.tape.trans h.tape, hT.output.trans h.output, Nat.le_trans h.size hT.size, fun b hb hn => (hT.block b (Nat.lt_of_lt_of_le hb h.size) (fun e => by have := hS b e; omega)).trans (h.block b hb hn)⟩
theorem PutS.turn (h : PutS w0 G w n t rt rm fm D sa ins rv) {S : List Nat} (hT : Turn S w w') (hS : ∀ b ∈ S, b = G.tb ∨ b = G.so ∨ b = G.s1 ∨ b = G.s2)
    (hf : FS G w' (putI G n') (if 0 < n' then 1 else 0) (if 1 < n' then 1 else 0) (if 2 < n' then 1 else 0) rv (.slice none 0 0) (.slice none 0 0)) : PutS w0 G w' n' t rt rm fm D sa ins rv := by
  have hge := h.ge
  have k1 : ∀ b ∈ S, b ≠ G.kn ∧ b ≠ G.fb ∧ b ≠ G.p ∧ rv.ownBlock ≠ some b ∧ Far w0.heap.size G.th t rt rm fm G.args b := fun b hb => by
    rcases hS b hb with rfl | rfl | rfl | rfl
    · exact ⟨h_ne h.fs.tb h.kn (by decide), h.fne.2.2.2.2.2.symm, h_ne h.fs.tb h.pr (by decide), row_ne h.row h.fs.tb (by decide), h.b.far h.fs.tb (by decide) (by decide) (by decide) (by decide)⟩
    · exact ⟨h_ne h.fs.so h.kn (by decide), h.fne.2.1.symm, h_ne h.fs.so h.pr (by decide), row_ne h.row h.fs.so (by decide), h.b.far h.fs.so (by decide) (by decide) (by decide) (by decide)⟩
    · exact ⟨h_ne h.fs.k1 h.kn (by decide), h.fne.2.2.1.symm, h_ne h.fs.k1 h.pr (by decide), row_ne h.row h.fs.k1 (by decide), h.b.far h.fs.k1 (by decide) (by decide) (by decide) (by decide)⟩
    · exact ⟨h_ne h.fs.k2 h.kn (by decide), h.fne.2.2.2.1.symm, h_ne h.fs.k2 h.pr (by decide), row_ne h.row h.fs.k2 (by decide), h.b.far h.fs.k2 (by decide) (by decide) (by decide) (by decide)⟩
  exact { fs := hf, kn := hT.ob h.kn (fun e => (k1 _ e).1 rfl), fl := h.fl.turn hT (fun e => (k1 _ e).2.1 rfl), pr := hT.ob h.pr (fun e => (k1 _ e).2.2.1 rfl), row := own_turn h.row hT (fun g hg e => (k1 _ e).2.2.2.1 hg), rb := h.rb, rlt := ⟨Nat.lt_of_lt_of_le h.rlt.1 hT.size, Nat.lt_of_lt_of_le h.rlt.2 hT.size⟩, b := h.b.turn hT (fun b hb => (k1 b hb).2.2.2.2), since := turn_since h.since hT (fun b hb => by rcases hS b hb with rfl | rfl | rfl | rfl <;> omega), ge := h.ge, look := h.look, s12 := h.s12, fne := h.fne, rne := h.rne }
theorem PutS.rdy (h : PutS w0 G w 3 t rt rm fm D sa ins rv) (hG : G.last = 3 ∧ G.cwd = sE ∧ G.box = .nilIface ∧ G.isChild = false) (hm : Mild G.faults) : Rdy G w ins sa rv where
  pr := h.pr
  ki := { kn := by rw [hG.1]; exact h.kn, fl := h.fl, mild := hm, fit := Nat.zero_le _, tb := h.fs.tb, so := h.fs.so, rest := by_own h.row, rblk := (fun b off n c e => (by
            subst e
            exact h.rb b rfl)), k1 := h.fs.k1, o1 := World.ownsRow_nil _ _ _ _, k2 := h.fs.k2, o2 := World.ownsRow_nil _ _ _ _, s12 := h.s12, lt := h.rlt, v12 := (fun b e => (by cases e)), vr := ⟨by simp [Value.ownBlock], by simp [Value.ownBlock]⟩, vf := ⟨by simp [Value.ownBlock], by simp [Value.ownBlock]⟩, fb := ⟨h.fne.1, h.fne.2.1, h.fne.2.2.1, h.fne.2.2.2.1⟩, rb := ⟨h.rne.1, h.rne.2.1, h.rne.2.2.1, h.rne.2.2.2.1⟩ }
  av := h.b.av
  lt := ⟨h_lt h.pr, h_lt h.kn, h_lt h.fs.tb, h_lt h.fs.so, h_lt h.fs.k1, h_lt h.fs.k2, h.b.map.lt, h.rlt.2, h.rlt.1⟩
  fm := ⟨h.fne.2.2.2.2.1, h.rne.2.2.2.2⟩
  cw := hG.2

def Gh.begun (G : Gh) (m base f0 : Nat) (u0 : Value) (c0 : KCall) : Gh := { G with m := m, base := base, main := .func (.func f0) #[u0] #[], first := c0 }
theorem KI.like {G' : Gh} {k : KC} {v1 v2 : Value} (h : KI G w k rv v1 v2) (e : G' = { G with m := G'.m, an := G'.an, pg := G'.pg, ab := G'.ab, base := G'.base, main := G'.main, ansv := G'.ansv, pc := G'.pc, first := G'.first, ans := G'.ans }) : KI G' w k rv v1 v2 := by
  rw [e]
  exact ⟨h.kn, h.fl, h.mild, h.fit, h.tb, h.so, h.rest, h.rblk, h.k1, h.o1, h.k2, h.o2, h.s12, h.lt, h.v12, h.vr, h.vf, h.fb, h.rb⟩
/-- The machine, before its first step. -/
theorem started_pw {m base f0 : Nat} {u0 nx : Value} {c0 : KCall} {w1 : World} (h : Rdy G w ins sa rv) (hl : ins.length ≤ 1073741824) (hc : CallOk c0) (hm : w.heap.size ≤ m) (hmb : m < base) (hb : base ≤ w1.heap.size)
    (hp : PrAt w1 G.p G.kn G.tb G.args G.env sE G.l1 G.l2 G.l3 0 0 .nilIface G.kin false (.pointer none)) (hmc : McAt w1 m G.p (.func (.func f0) #[u0] #[]) (.slice none 0 0) 0 nx false 0 false 0) (hwt : Wt { G with m := m, base := base } w1 c0 nx) (hT : Turn [G.p] w w1) :
    PW (G.begun m base f0 u0 c0) (w1.setCell ⟨m, 5, none⟩ (.bool true)) ⟨0, ins, [], []⟩ 0 0 rv (.slice none 0 0) (.slice none 0 0) nx := by
  obtain ⟨c1, c2, c3⟩ := h.cw
  have hlt := h.lt
  have hk := h.ki
  have hTm : Turn [m] w1 (w1.setCell ⟨m, 5, none⟩ (.bool true)) := Turn.set _ _ _ _ (by simp)
  have e1 := h_ne h.pr hk.kn (by decide)
  have e2 := h_ne h.pr hk.so (by decide)
  have e3 := h_ne h.pr hk.k1 (by decide)
  have e4 := h_ne h.pr hk.k2 (by decide)
  have e5 := h_ne h.pr hk.tb (by decide)
  have hk1 := hk.keep hT (fun b hb => by
    obtain rfl : b = G.p := by simpa using hb
    exact ⟨e1, e2, e3, e4, e5, h.fm.1.symm, h.fm.2.symm, by simp [Value.ownBlock], by simp [Value.ownBlock]⟩)
  have hk2 := hk1.keep hTm (fun b hb => by
    obtain rfl : b = m := by simpa using hb
    exact ⟨by omega, by omega, by omega, by omega, by omega, by omega, by omega, by simp [Value.ownBlock], by simp [Value.ownBlock]⟩)
  have hw2 : Wt (G.begun m base f0 u0 c0) (w1.setCell ⟨m, 5, none⟩ (.bool true)) c0 nx := by
    have := hwt.keep hTm (fun b hb => by obtain rfl : b = m := by simpa using hb
                                         exact hmb)
    exact ⟨this.rd, this.wr⟩
  exact { pr := (by
            show PrAt _ G.p G.kn G.tb G.args G.env G.cwd G.l1 G.l2 G.l3 0 0 G.box G.kin G.isChild (.pointer none)
            rw [c1, c2, c3]
            exact hTm.ob hp (by simp; omega)), mc := (by
            have := h_set hmc 5 (.bool true)
            simp at this
            exact this), ki := hk2.like rfl, wt := hw2, base := Nat.le_trans hb hTm.size, stat := (by show G.p < base ∧ m < base ∧ G.kn < base ∧ G.tb < base ∧ G.so < base ∧ G.s1 < base ∧ G.s2 < base ∧ G.th < base ∧ G.fb < base ∧ G.rb < base; omega), v1l := (fun b e => by simp [Value.ownBlock] at e), v2l := (fun b e => by simp [Value.ownBlock] at e), fm := (by show G.fb ≠ m ∧ G.rb ≠ m ∧ G.fb ≠ G.p ∧ G.rb ≠ G.p; exact ⟨by omega, by omega, h.fm.1, h.fm.2⟩), ok := ⟨fun e => ⟨hc.1 e, hl⟩, fun e => ⟨(hc.2 e).1, (hc.2 e).2, by simp, by simp⟩⟩ }
end
end Go.Proofs.YteimilnecahifaaGreatDoor

namespace Go.Proofs.YteimilnecahifaaGreatDoor
open Go.RowKit Go.Shelf Go.Maps
section
variable {w : World} {m p : Nat} {main past next : Value} {told steps status : Int} {once done : Bool}
theorem status_c (h : McAt w m p main past told next once steps done status) : Calls Tryz.prog 49 #[ptr m] w fun e w' => e = .returned (.int .i64 status) ∧ w' = w := by
  have c8 := h_cell h 8 rfl
  clear h
  go_enter Tryz.func49, Tryz.ntmps49
  go_wp2
  go_ret
  exact ⟨rfl, rfl⟩
theorem steps_c (h : McAt w m p main past told next once steps done status) : Calls Tryz.prog 51 #[ptr m] w fun e w' => e = .returned (.int .i64 steps) ∧ w' = w := by
  have c6 := h_cell h 6 rfl
  clear h
  go_enter Tryz.func51, Tryz.ntmps51
  go_wp2
  go_ret
  exact ⟨rfl, rfl⟩
theorem peak_c {kn tb kin : Nat} {args env box runs : Value} {cwd : ByteArray} {l1 l2 l3 held peak : Int} {isChild : Bool} (h : McAt w m p main past told next once steps done status) (hp : PrAt w p kn tb args env cwd l1 l2 l3 held peak box kin isChild runs) : Calls Tryz.prog 52 #[ptr m] w fun e w' => e = .returned (.int .i64 peak) ∧ w' = w := by
  have c0 := h_cell h 0 rfl
  have c9 := h_cell hp 9 rfl
  clear h hp
  go_enter Tryz.func52, Tryz.ntmps52
  go_wp2
  go_ret
  exact ⟨rfl, rfl⟩
theorem used_c {k th : Nat} {tr fs : Value} {used now last : Int} (h : KnAt w k tr fs used now th last) : Calls Tryz.prog 53 #[ptr k] w fun e w' => e = .returned (.int .i64 used) ∧ w' = w := by
  have c2 := h_cell h 2 rfl
  clear h
  go_enter Tryz.func53, Tryz.ntmps53
  go_wp2
  go_ret
  exact ⟨rfl, rfl⟩
end
end Go.Proofs.YteimilnecahifaaGreatDoor

namespace Go.Proofs.YteimilnecahifaaGreatDoor
open Go.RowKit Go.Shelf

set_option maxRecDepth 1000000 in
set_option maxHeartbeats 4000000 in
theorem insertion_none (f : Value) (w : World) : Calls Tryz.prog 137 #[.slice none 0 0, .int .i64 0, .int .i64 0, f] w fun e w' => (∃ v, e = .returned v) ∧ w' = w := by
  go_enter Tryz.func137, Tryz.ntmps137
  go_wp2
  go_loopw [8] (fun i wr => i = .int .i64 1 ∧ wr = w) (fun _ _ => 0)
  case atStart => exact ⟨rfl, rfl⟩
  case round =>
    obtain ⟨rfl, rfl⟩ := hrel
    go_wp2
    go_end0
    exact ⟨⟨_, rfl⟩, rfl⟩

set_option maxRecDepth 1000000 in
set_option maxHeartbeats 4000000 in
theorem pdq_none (f : Value) (l : Int) (w : World) : Calls Tryz.prog 109 #[.slice none 0 0, .int .i64 0, .int .i64 0, .int .i64 l, f] w fun e w' => (∃ v, e = .returned v) ∧ w' = w := by
  go_enter Tryz.func109, Tryz.ntmps109
  go_wp2_with (go_at_call 137; refine (insertion_none f _).mono ?_; rintro e w2 ⟨⟨v, rfl⟩, hw⟩; rw [hw])
  go_loopw [1, 2] (fun a b wr => a = .int .i64 0 ∧ b = .int .i64 0 ∧ wr = w) (fun _ _ _ => 0)
  case atStart => exact ⟨rfl, rfl, rfl⟩
  case round =>
    obtain ⟨rfl, rfl, rfl⟩ := hrel
    go_wp2_with (go_at_call 137; refine (insertion_none f _).mono ?_; rintro e w2 ⟨⟨v, rfl⟩, hw⟩; rw [hw])
    refine bodyPost_ret (results_none rfl _ _ _) rfl ?_
    exact ⟨⟨_, rfl⟩, rfl⟩

theorem bitsLen_c (x : Int) (w : World) (h0 : 0 ≤ x) (h1 : x ≤ 18446744073709551615) :
    Calls Tryz.prog 110 #[.int .u64 x] w fun e w' => (∃ v : Int, e = .returned (.int .i64 v)) ∧ w' = w := by
  have hl := Tryz.bits_Len64 x w h0 h1
  go_enter Tryz.func110, Tryz.ntmps110
  go_wp2_with (go_at_call 60; refine hl.mono ?_; rintro e w2 ⟨rfl, hw⟩; rw [hw])
  go_ret
  exact ⟨⟨_, rfl⟩, rfl⟩

set_option maxHeartbeats 1000000 in
theorem sort_none (f : Value) (w : World) : Calls Tryz.prog 78 #[.slice none 0 0, f] w fun e w' => (∃ v, e = .returned v) ∧ w' = w := by
  go_enter Tryz.func78, Tryz.ntmps78
  go_wp2_with (first
    | (go_at_call 110; refine (bitsLen_c _ _ (by decide) (by decide)).mono ?_; rintro e w2 ⟨⟨v, rfl⟩, hw⟩; rw [hw])
    | (go_at_call 109; refine (pdq_none f _ _).mono ?_; rintro e w2 ⟨⟨v, rfl⟩, hw⟩; rw [hw]))
  go_end0
  exact ⟨⟨_, rfl⟩, rfl⟩
end Go.Proofs.YteimilnecahifaaGreatDoor

namespace Go.Proofs.YteimilnecahifaaGreatDoor
open Go.RowKit Go.Shelf Go.Maps

attribute [local go_sem] Oper.semAt_some ptr

theorem below_c (b : Nat) (s : ByteArray) (w : World) : Calls Tryz.prog 77 #[.pointer (some ⟨b, 0, none⟩), .string s] w fun e w' => e = .returned (.func (.func 107) #[] #[.pointer (some ⟨w.heap.size, 0, none⟩), .pointer (some ⟨w.heap.size + 1, 0, none⟩)]) ∧ w' = (w.alloc (.cells #[.pointer (some ⟨b, 0, none⟩)] 156)).alloc (.cells #[.string s] 9) := by
  go_enter Tryz.func77, Tryz.ntmps77
  go_wp2
  go_ret
  exact ⟨rfl, rfl⟩

theorem empty_map {w : World} {b N k : Nat} (h : w.ownsMap Tryz.prog k R b N (.map [])) : ∃ clock, w.heap[b]? = some (.map #[] clock) := by
  obtain ⟨es, clock, hb, _, _, hD⟩ := h
  have : ((es.toList.map (WideElems.rg Tryz.prog k R)).foldr DataW.insert []).length = 0 := by
    injection hD with hD; rw [← hD]; rfl
  rw [length_sorted] at this
  have hz : es.size = 0 := by simpa using this
  obtain rfl : es = #[] := Array.eq_empty_of_size_eq_zero hz
  exact ⟨clock, hb⟩

set_option maxRecDepth 100000 in
set_option maxHeartbeats 2000000 in
theorem visit_none (b mb c : Nat) (s : ByteArray) (l : Nat) (x : Nd) (w : World) (hn : NdAt w b x) (he : x.ents = .map (some mb)) (hm : w.heap[mb]? = some (.map #[] c)) (n : Nat) :
    CallsIn Fence.wide n Tryz.prog 108 #[.pointer (some ⟨b, 0, none⟩), .string s, .func (.yield l) #[] #[]] w fun e w' => e = .returned (.bool true) ∧ w.grownBy w' none := by
  have e5 := hn.c5
  rw [he] at e5
  have hrg := run_range_map (P := Tryz.prog) w 160 9 156 mb #[] c under80 hm
  have hnx : ∀ ty, (Instr.next (.pointer (some ⟨w.heap.size, 0, none⟩)) false ty).run Tryz.prog (w.alloc (.mapIter (some mb) c #[] c)) = .ok (.tuple #[.bool false]) (w.alloc (.mapIter (some mb) c #[] c)) := fun ty => by
    rcases run_next_at (P := Tryz.prog) (w.alloc (.mapIter (some mb) c #[] c)) ty w.heap.size mb c c #[] #[] c (al_new _ _ rfl) (al_old _ hm) (by simp) (Nat.le_refl _) with ⟨_, h⟩ | ⟨e, he, _⟩
    · exact h
    · simp [leftOf] at he
  refine callsIn_of_wp Tryz.func108 rfl trivial ?_ rfl
  simp only [Tryz.ntmps108, List.size_toArray, List.length_cons, List.length_nil, Nat.reduceAdd, Nat.reduceSub, Array.replicate_succ, Array.replicate_zero, List.push_toArray, List.append_toArray, List.nil_append, List.cons_append]
  gi_wp2
  gi_loopw [15] (fun _ wr => wr = w.alloc (.mapIter (some mb) c #[] c)) (fun _ _ => 0)
  case atStart => exact rfl
  case round =>
    subst hrel
    gi_wp2
    go_ret
    exact ⟨rfl, World.grownBy_alloc _ _ none⟩

set_option maxRecDepth 100000 in
set_option maxHeartbeats 2000000 in
theorem below1_none (b mb c : Nat) (s : ByteArray) (x : Nd) (B1 B2 : Nat) (w : World) (hn : NdAt w b x) (he : x.ents = .map (some mb)) (hm : w.heap[mb]? = some (.map #[] c)) (h1 : w.heap[B1]? = some (.cells #[.pointer (some ⟨b, 0, none⟩)] 156)) (h2 : w.heap[B2]? = some (.cells #[.string s] 9)) (n : Nat) (hn1 : 1 ≤ n) :
    SeqStopsK Fence.wide n Tryz.prog 107 #[.pointer (some ⟨B1, 0, none⟩), .pointer (some ⟨B2, 0, none⟩)] (fun _ : Unit => #[.string ⟨#[]⟩, .pointer none]) (fun _ _ => True) (fun ys => ys = []) (fun _ => False) 0 w := by
  intro l J Jx W hW hJ hJx hY h0
  have hn' := hn.below hW hn.lt
  have hm' : W.heap[mb]? = some (.map #[] c) := (hW.block mb (Array.getElem?_eq_some_iff.1 hm).1).trans hm
  have h1' := (hW.block B1 (Array.getElem?_eq_some_iff.1 h1).1).trans h1
  have h2' := (hW.block B2 (Array.getElem?_eq_some_iff.1 h2).1).trans h2
  have k1 : W.cell? ⟨B1, 0, none⟩ = some (.pointer (some ⟨b, 0, none⟩)) := by simp [World.cell?, h1']
  have k2 : W.cell? ⟨B2, 0, none⟩ = some (.string s) := by simp [World.cell?, h2']
  have hv := visit_none b mb c s l x W hn' he hm' (n - 1)
  clear hY hn' hm' h1' h2' hn hm h1 h2 hW
  refine callsIn_of_wp Tryz.func107 rfl trivial ?_ rfl
  simp only [Tryz.ntmps107, List.size_toArray, List.length_cons, List.length_nil, Nat.reduceAdd, Nat.reduceSub, Array.replicate_succ, Array.replicate_zero, List.push_toArray, List.append_toArray, List.nil_append, List.cons_append]
  gi_wp2_with (refine ⟨trivial, ?_⟩; gi_at_call 108; refine hv.mono ?_; rintro e w2 ⟨rfl, hg⟩)
  go_end0
  exact ⟨⟨_, rfl⟩, .inl ⟨[], rfl, hJ _ _ _ _ h0 hg (fun r e => by cases e)⟩⟩

def DumpI (n : Nat) (w : World) (_ : List Unit) (W : World) : Prop := W.heap[n]? = some (.cells #[.slice none 0 0] 28) ∧ Below n w W

set_option maxRecDepth 100000 in
set_option maxHeartbeats 4000000 in
theorem dump_in (t b mb N : Nat) (x : Nd) (fm nm la : Value) (w : World) (hT : TrAt w t (ptr b) fm nm la) (hn : NdAt w b x) (he : x.ents = .map (some mb)) (hm : w.ownsMap Tryz.prog 9 R mb N (.map [])) :
    CallsIn Fence.wide 9 Tryz.prog 50 #[.pointer (some ⟨t, 0, none⟩)] w fun e w' => e = .returned (.slice none 0 0) ∧ Below w.heap.size w w' := by
  obtain ⟨c, hmc⟩ := empty_map hm
  have hro : Fence.wide.round = none := rfl
  have hmm := @run_makeMap Tryz.prog
  have htl := hT.lt
  have t0 : ∀ o o' o'', (((w.alloc o).alloc o').alloc o'').cell? ⟨t, 0, none⟩ = some (.pointer (some ⟨b, 0, none⟩)) := fun o o' o'' => (show TrAt (((w.alloc o).alloc o').alloc o'') t (ptr b) fm nm la from al_old _ (al_old _ (al_old _ hT))).c0
  refine callsIn_of_wp_marks Tryz.func50 rfl trivial ?_ hro
  simp only [Tryz.ntmps50, List.size_toArray, List.length_cons, List.length_nil, Nat.reduceAdd, Nat.reduceSub, Array.replicate_succ, Array.replicate_zero, List.push_toArray, List.append_toArray, List.nil_append, List.cons_append]
  gi_wp2_with (refine ⟨trivial, ?_⟩; gi_at_call 77; refine (callsIn_wide.2 (below_c _ _ _)).mono ?_; rintro e w' ⟨rfl, rfl⟩)
  obtain ⟨w1, hw1⟩ : ∃ w1, w1 = ((((w.alloc (.cells #[.slice none 0 0] 28)).alloc (.map #[] 0)).alloc (.cells #[.map (some (w.heap.size + 1))] 152)).alloc (.cells #[.pointer (some ⟨b, 0, none⟩)] 156)).alloc (.cells #[.string ⟨#[]⟩] 9) := ⟨_, rfl⟩
  have hs1 : w1.heap.size = w.heap.size + 5 := by rw [hw1]; simp
  have hB0 : Below w.heap.size w w1 := by rw [hw1]; exact (((((Below.refl _ w).alloc (Nat.le_refl _) _).alloc (by simp) _).alloc (by simp; omega) _).alloc (by simp; omega) _).alloc (by simp; omega) _
  have e0 : w1.heap[w.heap.size]? = some (.cells #[.slice none 0 0] 28) := by rw [hw1]; exact al_old _ (al_old _ (al_old _ (al_old _ (al_new _ _ rfl))))
  have e3 : w1.heap[w.heap.size + 1 + 1 + 1]? = some (.cells #[.pointer (some ⟨b, 0, none⟩)] 156) := by rw [hw1]; exact al_old _ (al_new _ _ (by simp))
  have e4 : w1.heap[w.heap.size + 1 + 1 + 1 + 1]? = some (.cells #[.string ⟨#[]⟩] 9) := by rw [hw1]; exact al_new _ _ (by simp)
  have hn1 := hn.below hB0 hn.lt
  have hm1 : w1.heap[mb]? = some (.map #[] c) := (hB0.block mb hm.lt).trans hmc
  rw [← hw1]
  clear hw1
  refine wpIn_rangeFunc_ownG hro (by omega) (gf := 107) (lb := #[.pointer (some ⟨w.heap.size + 1 + 1 + 1, 0, none⟩), .pointer (some ⟨w.heap.size + 1 + 1 + 1 + 1, 0, none⟩)]) rfl trivial (enters_of Tryz.func107 (by kernel_rfl) rfl)
    (below1_none b mb c ⟨#[]⟩ x _ _ w1 hn1 he hm1 e3 e4 8 (by omega)) (fun _ _ => trivial) (fun _ _ _ _ _ _ _ _ => trivial) (Below.refl _ _) (fun _ => rfl)
    (DumpI w.heap.size w) (fun _ _ _ => False)
    (fun ys X Y row h hg hr => ⟨kept_at hg (n := w.heap.size + 5) (fun r e => by have := (hr r e).1; omega) (by omega) h.1, h.2.grown hg (by have := (Array.getElem?_eq_some_iff.1 h.1).1; omega) (fun k e => by have := (hr k e).1; omega)⟩) (fun _ _ _ _ _ h _ _ => h)
    ⟨e0, hB0⟩
    (fun _ => { tmps := #[.pointer (some ⟨t, 0, none⟩), undef, .slice none 0 0, .pointer (some ⟨w.heap.size, 0, none⟩), .pointer (some ⟨w.heap.size + 1 + 1, 0, none⟩), .string ⟨#[]⟩, .pointer none, undef, undef, undef, .map (some (w.heap.size + 1)), .pointer (some ⟨t, 0, none⟩), .pointer (some ⟨t, 0, none⟩), .pointer (some ⟨t, 0, none⟩), .pointer (some ⟨b, 0, none⟩), .func (.func 107) #[] #[.pointer (some ⟨w.heap.size + 1 + 1 + 1, 0, none⟩), .pointer (some ⟨w.heap.size + 1 + 1 + 1 + 1, 0, none⟩)], .string ⟨#[]⟩, .pointer none, undef, undef, undef, undef, undef, undef, undef, undef, undef, undef, undef, undef, undef, undef, undef, undef, undef, undef, undef, undef, undef, undef, undef, undef, undef, undef, undef, undef, undef, undef, undef, undef, undef, undef, undef, undef, undef, undef, undef, undef, undef, undef, undef, undef, undef, undef, undef, undef, undef, undef, undef, undef, undef, undef, undef, undef, undef, undef, undef, undef, undef, undef, undef, undef, undef], defers := [] }) ?assign ?body ?done ?stop
  case assign =>
    intro l x W K hK
    gi_wp2
    exact hK
  case body =>
    intro l pre x W _ hlt
    omega
  case stop =>
    intro D c pre W _ _ h _
    exact h.elim
  case done =>
    rintro D ys W hD hS ⟨h1, hB⟩ hK
    have c0 : W.cell? ⟨w.heap.size, 0, none⟩ = some (.slice none 0 0) := by simp [World.cell?, h1]
    have hlt : w.heap.size < W.heap.size := (Array.getElem?_eq_some_iff.1 h1).1
    gi_wp2_with (refine ⟨trivial, ?_⟩; gi_at_call 78; refine (callsIn_wide.2 (sort_none _ _)).mono ?_; rintro e w3 ⟨⟨v, rfl⟩, hw3⟩; rw [hw3])
    gi_loopw [51] (fun i wr => i = .int .i64 0 ∧ wr = W.alloc (.map #[] 0)) (fun _ _ => 0)
    case atStart => exact ⟨rfl, rfl⟩
    case round =>
      obtain ⟨rfl, rfl⟩ := hrel
      gi_wp2
      have hK2 : (W.alloc (.map #[] 0)).heap[D]? = some (.deferred (some [])) := al_old _ hK
      refine ⟨by simp, .inl ⟨_, _, rfl, run_takeDeferred hK2, ?_⟩⟩
      exact ⟨_, results_tmp rfl _ _ _, rfl, (hB.alloc (by omega) _).trans (belowK_b (w := w) (Nat.le_refl _) _ D _ _ (by omega) hK2 rfl rfl)⟩

theorem dump_none (t b mb N : Nat) (x : Nd) (fm nm la : Value) (w : World) (hT : TrAt w t (ptr b) fm nm la) (hn : NdAt w b x) (he : x.ents = .map (some mb)) (hm : w.ownsMap Tryz.prog 9 R mb N (.map [])) :
    Calls Tryz.prog 50 #[.pointer (some ⟨t, 0, none⟩)] w fun e w' => e = .returned (.slice none 0 0) ∧ Below w.heap.size w w' :=
  (callsIn_wide (n := 9)).1 (dump_in t b mb N x fm nm la w hT hn he hm)
end Go.Proofs.YteimilnecahifaaGreatDoor

namespace Go.Proofs.YteimilnecahifaaGreatDoor
open Go.RowKit Go.Shelf Go.Maps
/-- A result as it lies in its box. -/
abbrev RsAt (w : World) (b : Nat) (x0 x1 x2 x3 x4 x5 x6 : Value) : Prop := w.heap[b]? = some (.cells #[x0, x1, x2, x3, x4, x5, x6] 30)
theorem RsAt.set {w : World} {b : Nat} {x0 x1 x2 x3 x4 x5 x6 : Value} (h : RsAt w b x0 x1 x2 x3 x4 x5 x6) (y0 y1 y2 y3 y4 y5 y6 : Value) : RsAt (((((((w.setCell ⟨b, 0, none⟩ y0).setCell ⟨b, 1, none⟩ y1).setCell ⟨b, 2, none⟩ y2).setCell ⟨b, 3, none⟩ y3).setCell ⟨b, 4, none⟩ y4).setCell ⟨b, 5, none⟩ y5).setCell ⟨b, 6, none⟩ y6) b y0 y1 y2 y3 y4 y5 y6 := by
  show (World.heap _)[b]? = _
  simp [World.setCell, Array.getElem?_modify, show w.heap[b]? = _ from h]
theorem RsAt.turn (w : World) (b : Nat) (y0 y1 y2 y3 y4 y5 y6 : Value) : Turn [b] w (((((((w.setCell ⟨b, 0, none⟩ y0).setCell ⟨b, 1, none⟩ y1).setCell ⟨b, 2, none⟩ y2).setCell ⟨b, 3, none⟩ y3).setCell ⟨b, 4, none⟩ y4).setCell ⟨b, 5, none⟩ y5).setCell ⟨b, 6, none⟩ y6) :=
  ((((((Turn.set w b 0 _ (by simp)).trans (Turn.set _ b 1 _ (by simp))).trans (Turn.set _ b 2 _ (by simp))).trans (Turn.set _ b 3 _ (by simp))).trans (Turn.set _ b 4 _ (by simp))).trans (Turn.set _ b 5 _ (by simp))).trans (Turn.set _ b 6 _ (by simp))
theorem infoRs : (Tryz.prog.info? 30).map (·.size) = some 7 := by kernel_rfl
theorem results_rs {fn : Func} {p u : Tmp} (h : fn.results = #[.cell p 30, .tmp u]) {tmps : Array Value} {w : World} {b : Nat} {x0 x1 x2 x3 x4 x5 x6 v : Value} (hp : tmps.getD p undef = .pointer (some ⟨b, 0, none⟩)) (hg : RsAt w b x0 x1 x2 x3 x4 x5 x6)
    (hv : tmps.getD u undef = v) : (results fn tmps).run Tryz.prog w = .ok (.tuple #[.agg #[x0, x1, x2, x3, x4, x5, x6], v]) w := by
  rw [results_cell_tmp h, hp, hv]
  simp [asAddr, Result.andThen, run_loadVar_row w b 30 30 #[x0, x1, x2, x3, x4, x5, x6] (0, 0) _ hg Tryz.underlying30 rfl infoRs]
section
variable {n0 : Nat} {G : Gh} {w : World} {t rt rm fm : Nat} {D : DataW Value} {sa : List ByteArray} {k : KC} {held peak steps st : Int} {rv v1 v2 : Value}
/-- The answers in a world. -/
structure Asks (G : Gh) (t : Nat) (k : KC) (peak steps st : Int) (u : World) : Prop where
  out : Calls Tryz.prog 48 #[ptr G.kn, .int .i64 2] u fun r w' => ∃ v', r = .returned v' ∧ w'.ownsRow u.heap.size 5 1 v' k.out.length (u8s k.out) ∧ Below u.heap.size u w'
  err : Calls Tryz.prog 48 #[ptr G.kn, .int .i64 3] u fun r w' => ∃ v', r = .returned v' ∧ w'.ownsRow u.heap.size 5 1 v' k.err.length (u8s k.err) ∧ Below u.heap.size u w'
  status : Calls Tryz.prog 49 #[ptr G.m] u fun e w' => e = .returned (.int .i64 st) ∧ w' = u
  dump : Calls Tryz.prog 50 #[ptr t] u fun e w' => e = .returned (.slice none 0 0) ∧ Below u.heap.size u w'
  steps : Calls Tryz.prog 51 #[ptr G.m] u fun e w' => e = .returned (.int .i64 steps) ∧ w' = u
  peak : Calls Tryz.prog 52 #[ptr G.m] u fun e w' => e = .returned (.int .i64 peak) ∧ w' = u
  used : Calls Tryz.prog 53 #[ptr G.kn] u fun e w' => e = .returned (.int .i64 k.used) ∧ w' = u
theorem run_asks (hF : Fin G w k held peak steps st rv v1 v2) (hB : RunB n0 w G.th t rt rm fm D G.args sa) (hlk : lookT D (ik 2) = iSk G.s1 ∧ lookT D (ik 3) = iSk G.s2) (hb : k.out.length ≤ 1073741824 ∧ k.err.length ≤ 1073741824) (u : World) (hu : Below w.heap.size w u) : Asks G t k peak steps st u := by
  have hT : Turn [] w u := Turn.below hu
  have hK := hT.ob hF.kn (by simp)
  have hM := hT.map hB.map (by simp)
  have hmc := hT.ob hF.mc (by simp)
  have htr := hB.tr.turn hT (by simp)
  have o1 := own_turn hF.o1 hT (by simp)
  have o2 := own_turn hF.o2 hT (by simp)
  exact ⟨said_c _ _ _ _ _ _ _ _ _ _ _ _ _ _ _ hK hM (by decide) hlk.1 (hT.ob hF.fs.k1 (by simp)) (by_own o1) hb.1, said_c _ _ _ _ _ _ _ _ _ _ _ _ _ _ _ hK hM (by decide) hlk.2 (hT.ob hF.fs.k2 (by simp)) (by_own o2) hb.2, status_c hmc, dump_none t rt rm 0 (xr rt rm) _ _ _ u htr.hT htr.hN rfl htr.hM, steps_c hmc, peak_c hmc (hT.ob hF.pr (by simp)), used_c hK⟩
end
end Go.Proofs.YteimilnecahifaaGreatDoor
