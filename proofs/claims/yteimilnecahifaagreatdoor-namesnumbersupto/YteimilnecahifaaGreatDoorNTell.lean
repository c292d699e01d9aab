/- task: a utility's main, whatever it does. -/
import Derived.Deep.RegionWith
import Derived.Deep.DeepCutAuto
import Derived.Test.YteimilnecahifaaGreatDoorYMap
import Derived.Test.YteimilnecahifaaGreatDoorYParse
import Derived.Test.YteimilnecahifaaGreatDoorMFds
import Derived.Test.YteimilnecahifaaGreatDoorMGoWB
import Derived.Test.YteimilnecahifaaGreatDoorMPs
import Derived.Test.YteimilnecahifaaGreatDoorMZ2
import Derived.Test.YteimilnecahifaaGreatDoorSWrite2
namespace Go.Proofs.YteimilnecahifaaGreatDoor
open Go.RowKit Go.Shelf Go.Maps

set_option maxRecDepth 100000 in
set_option maxHeartbeats 2000000 in
theorem args_p {w : World} {p kn tb kin : Nat} {args env box runs : Value} {cwd : ByteArray} {l1 l2 l3 held peak : Int} {isChild : Bool} (hp : PrAt w p kn tb args env cwd l1 l2 l3 held peak box kin isChild runs) (sa : List ByteArray) (hl : sa.length ≤ 1048576) (hA : w.ownsRow 0 9 1 args sa.length (sa.map .string)) :
    Calls Tryz.prog 81 #[ptr p] w fun e w' => ∃ v', e = .returned v' ∧ w'.ownsRow w.heap.size 9 1 v' sa.length (sa.map .string) ∧ Below w.heap.size w w' := by
  have hc := sclone_c args sa w hl (ss_own hA)
  obtain ⟨xa, ca, rfl⟩ := own_shape hA
  have p2 : w.cell? ⟨p, 2, none⟩ = some (.slice xa sa.length ca) := h_cell hp 2 rfl
  have hlt := h_lt hp
  clear hp hA
  go_enter Tryz.func81, Tryz.ntmps81
  go_wp2_with (go_at_call 69; refine hc.mono ?_; rintro e w1 ⟨v', rfl, ho, hB⟩)
  go_ret
  exact ⟨v', rfl, ho, hB⟩
/-- cmp.Or of nothing and one. -/
theorem or_c (w : World) (b : Nat) (h0 : w.cell? ⟨b, 0, none⟩ = some (.int .i64 0)) (h1 : w.cell? ⟨b, 1, none⟩ = some (.int .i64 1)) :
    Calls Tryz.prog 113 #[.slice (some ⟨b, 0, none⟩) 2 2] w fun e w' => e = .returned (.int .i64 1) ∧ w' = w := by
  go_enter Tryz.func113, Tryz.ntmps113
  go_wp2
  go_loopw [8] (fun v wr => (v = .int .i64 0 ∨ v = .int .i64 1) ∧ wr = w) (fun v _ => 2 - (intOf v).toNat)
  case atStart => exact ⟨.inl rfl, rfl⟩
  case round =>
    obtain ⟨rfl | rfl, rfl⟩ := hrel
    · go_wp2
      exact ⟨⟨.inr rfl, trivial⟩, by decide⟩
    · go_wp2
      go_ret
      exact ⟨rfl, rfl⟩
/-- A task in memory. -/
abbrev TkN (w : World) (tk p : Nat) (lv ov : Value) (st : Int) (silent : Bool) (failed : Int) (heard : Bool) : Prop := w.heap[tk]? = some (.cells #[ptr p, lv, ov, .int .i64 st, .bool silent, .int .i64 failed, .bool heard] 177)
/-- What parting arguments comes to. -/
def PartedOut (B : Nat) (u : World) (rest : List ByteArray) (e : Ending) (w' : World) : Prop := ∃ a n c b m d, e = .returned (.tuple #[.slice a n c, .slice b m d, .int .i64 0]) ∧ Op.StrsAt w' (.slice b m d) rest ∧ (rest ≠ [] → ∀ q, b = some q → B ≤ q.block) ∧ Below u.heap.size u w'
set_option maxRecDepth 100000 in
set_option maxHeartbeats 2000000 in
/-- Arguments that are no options are operands. -/
theorem parted_plain {u : World} {B : Nat} {fv : Value} {spec : ByteArray} {f : Int} {a : Option Addr} {n c : Nat} {ss : List ByteArray} (hS : Op.StrsAt u (.slice a n c) ss) (hb : ∀ q, a = some q → B ≤ q.block) :
    Calls Tryz.prog 112 #[.agg #[.string spec, .bool true, fv, .int .i64 f], .slice a n c] u (PartedOut B u ss) := by
  have hBU : Below u.heap.size u (u.alloc (.cells #[.string spec, .bool true, fv, .int .i64 f] 171)) := (Below.refl _ u).alloc (Nat.le_refl _) _
  have H := Lib.hid (And.intro hS (And.intro hb hBU))
  clear hS hb hBU
  go_enter Tryz.func112, Tryz.ntmps112
  go_wp2
  go_ret3
  exact ⟨_, _, _, _, _, _, rfl, H.out.1.below H.out.2.2, fun _ => H.out.2.1, H.out.2.2⟩
set_option maxRecDepth 100000 in
set_option maxHeartbeats 2000000 in
/-- Options are read; there are none. -/
theorem parted_opt {u : World} {B : Nat} {fv : Value} {spec : ByteArray} {f : Int} {a : Option Addr} {n c : Nat} {ss rest : List ByteArray} {o : Op.Opts} (hS : Op.StrsAt u (.slice a n c) ss) (hBu : B ≤ u.heap.size) (hs : spec.size ≤ 2097152) (ht : Op.tot ss ≤ 2097152) (hlen : ss.length ≤ 2097152) (hP : Op.parseS spec [] ss = some (o, rest)) :
    Calls Tryz.prog 112 #[.agg #[.string spec, .bool false, fv, .int .i64 f], .slice a n c] u (PartedOut B u rest) := by
  have hBU : Below u.heap.size u (u.alloc (.cells #[.string spec, .bool false, fv, .int .i64 f] 171)) := (Below.refl _ u).alloc (Nat.le_refl _) _
  have hpa := Op.parse_c (.slice a n c) ss spec _ hs ht hlen (hS.below hBU)
  rw [hP] at hpa
  have H := Lib.hid (And.intro hBu hBU)
  clear hS hBu hBU hs ht hlen hP
  go_enter Tryz.func112, Tryz.ntmps112
  go_wp2_with (go_at_call 147; refine hpa.mono ?_; rintro e w2 ⟨⟨lv, ov, he, hO, hR⟩, hB2⟩; obtain ⟨xl, cl, rfl⟩ : ∃ a c, lv = .slice a o.length c := Op.own_slice2 hO; obtain ⟨xo, co, rfl⟩ := Op.strs_slice hR.1; have he2 : e = .returned (.tuple #[.slice xl o.length cl, .slice xo rest.length co, .int .i64 0]) := he; clear he; subst he2; have H2 := Lib.hid (And.intro hR hB2); clear hO hR hB2 hpa)
  go_ret3
  refine ⟨_, _, _, _, _, _, rfl, H2.out.1.1, fun hne q hq => ?_, H.out.2.trans (H2.out.2.mono H.out.2.size)⟩
  rcases H2.out.1.2 with h | h
  · exact absurd h hne
  · subst hq
    have := Op.own_ge2 h q.block (by simp [Value.ownBlock])
    have h3 := H.out.2.size
    have h4 := H.out.1
    omega
theorem slice_from1 {w : World} {B g cap : Nat} {ss : List ByteArray} (h : w.ownsRow B 9 1 (.slice (some ⟨g, 0, none⟩) ss.length cap) ss.length (ss.map .string)) (hk : 0 < ss.length) :
    ∃ y c, (∀ u : World, (Instr.sliceAt 32 (.slice (some ⟨g, 0, none⟩) ss.length cap) (some (.int .i64 1)) none none).run Tryz.prog u = .ok (.slice y (ss.length - 1) c) u) ∧ Op.StrsAt w (.slice y (ss.length - 1) c) (ss.drop 1) ∧ (∀ q, y = some q → q.block = g) ∧ B ≤ g ∧ g < w.heap.size := by
  have u22 := Tryz.underlying32
  have z9 := Tryz.sizeOf9
  have hS : Op.StrsAt w (.slice (some ⟨g, 0, none⟩) ss.length cap) ss := ss_own h
  rcases h.2 with ⟨h0, _⟩ | ⟨g', cap', cur, e, hb, hg, _⟩
  · cases h0
  cases e
  have hgl := h_lt hg
  rcases hS with ⟨h, _⟩ | ⟨b, off, cp, e, ⟨h1, h2⟩, h3, h4⟩
  · cases h
  · cases e
    by_cases hc : cap = 1
    · subst hc
      refine ⟨some ⟨g, 0, none⟩, 0, fun u => ?_, ?_, fun q hq => by cases hq; rfl, hb, hgl⟩
      · have e1 : ss.length = 1 := by omega
        rw [e1]
        simp [Instr.sliceAt, go_sem, z9]
      · have e : ss.length - 1 = 0 := by omega
        rw [e]
        exact Op.strs_end rfl (by omega) h3
    · refine ⟨some ⟨g, 0 + 1, none⟩, cap - 1, fun u => ?_, Op.strs_cut rfl hk h1 h2 h3 h4, fun q hq => by cases hq; rfl, hb, hgl⟩
      have e2 : (1 : Int) ≤ (ss.length : Int) := by omega
      have e3 : ¬ cap - 1 = 0 := by omega
      simp [Instr.sliceAt, go_sem, z9, e2, hc]
theorem cell2_new (w : World) (x y : Value) (T : Nat) : (w.alloc (.cells #[x, y] T)).cell? ⟨w.heap.size, 0, none⟩ = some x ∧ (w.alloc (.cells #[x, y] T)).cell? ⟨w.heap.size, 1, none⟩ = some y :=
  ⟨World.cell?_alloc_new w #[x, y] T 0, World.cell?_alloc_new w #[x, y] T 1⟩
set_option maxRecDepth 100000 in
set_option maxHeartbeats 8000000 in
/-- A utility's main: P says what comes of it. -/
theorem umain_n {P : Ending → World → Prop} {w : World} {p kn tb kin : Nat} {args env box runs : Value} {cwd : ByteArray} {l1 l2 l3 held peak : Int} {isChild pl : Bool} (hp : PrAt w p kn tb args env cwd l1 l2 l3 held peak box kin isChild runs) (sa rest : List ByteArray) (hl0 : 0 < sa.length) (hl : sa.length ≤ 1048576) (hA : w.ownsRow 0 9 1 args sa.length (sa.map .string)) (spec : ByteArray) (fd : Nat)
    (hcf : ∀ (z : Array Value) (u : World), (callFunc fd z).run Tryz.prog u = .ok (.enter fd z) u)
    (hpt : ∀ u a n c, Below w.heap.size w u → Op.StrsAt u (.slice a n c) (sa.drop 1) → (∀ q, a = some q → w.heap.size ≤ q.block) → Calls Tryz.prog 112 #[.agg #[.string spec, .bool pl, .func (.func fd) #[] #[], .int .i64 0], .slice a n c] u (PartedOut w.heap.size u rest))
    (hdo : ∀ tk lv ov w1, w.heap.size ≤ tk → tk < w1.heap.size → (rest ≠ [] → ∀ b off n c, ov = .slice (some ⟨b, off, none⟩) n c → w.heap.size ≤ b ∧ b < w1.heap.size ∧ b ≠ tk) → TkN w1 tk p lv ov 0 false 1 false → Op.StrsAt w1 ov rest → Below w.heap.size w w1 → Calls Tryz.prog fd #[ptr tk] w1 fun e w2 => (e = .panicked waitsP ∧ P (.panicked waitsP) w2) ∨ (∃ v st, e = .returned v ∧ w2.cell? ⟨tk, 3, none⟩ = some (.int .i64 st) ∧ P (.returned (.int .i64 st)) w2)) :
    Calls Tryz.prog 83 #[.agg #[.string spec, .bool pl, .func (.func fd) #[] #[], .int .i64 0], ptr p] w P := by
  have hargs := fun u (hu : Below w.heap.size w u) => args_p (w := u) ((Turn.below (S := []) hu).ob hp (by simp)) sa hl (own_turn hA (Turn.below (S := []) hu) (by simp))
  clear hp hA
  have HD := Lib.hid (And.intro hdo hpt)
  clear hdo hpt
  go_enter Tryz.func83, Tryz.ntmps83
  go_upto_region 1 with fail
  have hBU : Below w.heap.size w (w.alloc (.cells #[.string spec, .bool pl, .func (.func fd) #[] #[], .int .i64 0] 171)) := (Below.refl _ w).alloc (Nat.le_refl _) _
  have u0 : (w.alloc (.cells #[.string spec, .bool pl, .func (.func fd) #[] #[], .int .i64 0] 171)).heap[w.heap.size]? = some (.cells #[.string spec, .bool pl, .func (.func fd) #[] #[], .int .i64 0] 171 (0, 0)) := al_new _ _ rfl
  have hsU : (w.alloc (.cells #[.string spec, .bool pl, .func (.func fd) #[] #[], .int .i64 0] 171)).heap.size = w.heap.size + 1 := by simp
  generalize w.alloc (.cells #[.string spec, .bool pl, .func (.func fd) #[] #[], .int .i64 0] 171) = U at hBU u0 hsU ⊢
  have d0 : U.drew.cell? ⟨w.heap.size, 0, none⟩ = some (.string spec) := h_cell (w := U.drew) u0 0 rfl
  have d1 : U.drew.cell? ⟨w.heap.size, 1, none⟩ = some (.bool pl) := h_cell (w := U.drew) u0 1 rfl
  have d2 : U.drew.cell? ⟨w.heap.size, 2, none⟩ = some (.func (.func fd) #[] #[]) := h_cell (w := U.drew) u0 2 rfl
  have d3 : U.drew.cell? ⟨w.heap.size, 3, none⟩ = some (.int .i64 0) := h_cell (w := U.drew) u0 3 rfl
  have hBd : Below w.heap.size w U.drew := hBU.trans ⟨rfl, rfl, rfl, Nat.le_refl _, fun _ _ => rfl⟩
  have ha := hargs U.drew hBd
  have hltU : w.heap.size < U.heap.size := by omega
  clear hargs hsU hBU
  have HU := Lib.hid (And.intro hBd u0)
  clear hBd u0
  go_region_with (first
    | (go_at_call 81; refine ha.mono ?_; rintro e w3 ⟨av, rfl, ho3, hB3⟩; obtain ⟨ga, ca, cur, rfl, _⟩ := row_shape ho3 hl0; obtain ⟨y2, c2, hsl0, hS2, hy2, hg2, hg3⟩ := slice_from1 ho3 hl0; have hsl : ∀ u : World, (Instr.sliceAt 32 (.slice (some ⟨ga, 0, none⟩) sa.length ca) (some (.int .i64 1)) none none).run Tryz.prog u = .ok (.slice y2 (sa.length - 1) c2) u := hsl0; have hB3' : Below w.heap.size w w3 := HU.out.1.trans ((show Below U.drew.heap.size U.drew w3 from hB3).mono HU.out.1.size); have hb3 : w3.heap[w.heap.size]? = some (.cells #[.string spec, .bool pl, .func (.func fd) #[] #[], .int .i64 0] 171 (0, 0)) := (hB3.block _ hltU).trans HU.out.2; have e0 : w3.cell? ⟨w.heap.size, 0, none⟩ = some (.string spec) := h_cell hb3 0 rfl; have e1 : w3.cell? ⟨w.heap.size, 1, none⟩ = some (.bool pl) := h_cell hb3 1 rfl; have e2 : w3.cell? ⟨w.heap.size, 2, none⟩ = some (.func (.func fd) #[] #[]) := h_cell hb3 2 rfl; have e3 : w3.cell? ⟨w.heap.size, 3, none⟩ = some (.int .i64 0) := h_cell hb3 3 rfl; have hpc := HD.out.2 w3 y2 (sa.length - 1) c2 hB3' hS2 (fun q hq => (by rw [hy2 q hq]; exact Nat.le_trans HU.out.1.size hg2)); have H3 := Lib.hid (And.intro hB3' hb3); clear ha ho3 hB3 hB3' hb3 hS2 hsl0 hy2 hg2 hg3)
    | (go_at_call 112; refine hpc.mono ?_; rintro e w4 ⟨a4, n4, c4, b4, m4, q4, rfl, hS4, hg4, hB4⟩; have HR := Lib.hid (And.intro hS4 (And.intro hg4 hB4)); clear hpc hS4 hg4 hB4))
  all_goals
    have hb4 : w4.heap[w.heap.size]? = some (.cells #[.string spec, .bool pl, .func (.func fd) #[] #[], .int .i64 0] 171 (0, 0)) := (HR.out.2.2.block _ (h_lt H3.out.2)).trans H3.out.2
    have hB4 : Below w.heap.size w w4 := H3.out.1.trans (HR.out.2.2.mono H3.out.1.size)
    have f2 : w4.cell? ⟨w.heap.size, 2, none⟩ = some (.func (.func fd) #[] #[]) := h_cell hb4 2 rfl
    have f3 : w4.cell? ⟨w.heap.size, 3, none⟩ = some (.int .i64 0) := h_cell hb4 3 rfl
    have hlt4 := h_lt hb4
    obtain ⟨c20, c21⟩ := cell2_new w4 (.int .i64 0) (.int .i64 1) 3
    have hor := or_c _ _ c20 c21
    have HB4 := Lib.hid (And.intro hb4 hB4)
    clear d0 d1 d2 d3 e0 e1 e2 e3 hb4 hB4 c20 c21
    go_upto_region 3 with (go_at_call 113; refine hor.mono ?_; rintro e w' ⟨rfl, hw'⟩; rw [hw']; clear hw')
    have hBT : Below w4.heap.size w4 ((w4.alloc (.cells #[.int .i64 0, .int .i64 1] 3)).alloc (.cells #[ptr p, .slice a4 n4 c4, .slice b4 m4 q4, .int .i64 0, .bool false, .int .i64 1, .bool false] 177)) := ((Below.refl _ w4).alloc (Nat.le_refl _) _).alloc (by simp) _
    have hzT : ((w4.alloc (.cells #[.int .i64 0, .int .i64 1] 3)).alloc (.cells #[ptr p, .slice a4 n4 c4, .slice b4 m4 q4, .int .i64 0, .bool false, .int .i64 1, .bool false] 177)).heap.size = w4.heap.size + 2 := by simp
    have htk : TkN ((w4.alloc (.cells #[.int .i64 0, .int .i64 1] 3)).alloc (.cells #[ptr p, .slice a4 n4 c4, .slice b4 m4 q4, .int .i64 0, .bool false, .int .i64 1, .bool false] 177)) (w4.heap.size + 1) p (.slice a4 n4 c4) (.slice b4 m4 q4) 0 false 1 false := al_new _ _ (by simp)
    clear hor f2 f3
    generalize (w4.alloc (.cells #[.int .i64 0, .int .i64 1] 3)).alloc (.cells #[ptr p, .slice a4 n4 c4, .slice b4 m4 q4, .int .i64 0, .bool false, .int .i64 1, .bool false] 177) = T at hBT hzT htk ⊢
    have hbT := (hBT.block _ hlt4).trans HB4.out.1
    have g2 : T.cell? ⟨w.heap.size, 2, none⟩ = some (.func (.func fd) #[] #[]) := h_cell hbT 2 rfl
    have hs4 := HB4.out.2.size
    have hcall := HD.out.1 (w4.heap.size + 1) (.slice a4 n4 c4) (.slice b4 m4 q4) T (by omega) (by omega) (fun hne b off n c e => by
      cases e
      have h1 := HR.out.2.1 hne _ rfl
      have h2 : b < w4.heap.size := by
        rcases HR.out.1 with ⟨h, _⟩ | ⟨b', off', cap', e', _, h, _⟩
        · cases h
        · cases e'; exact h
      exact ⟨h1, by omega, by omega⟩) htk (HR.out.1.below hBT) (HB4.out.2.trans (hBT.mono hs4))
    clear hbT hBT hzT HB4 HR H3 HU HD hlt4 hltU
    go_wp2_with fail
    refine hcall.mono ?_
    rintro e w5 (⟨rfl, hP⟩ | ⟨v, st, rfl, h3, hP⟩)
    · exact ⟨rfl, hP⟩
    go_wp2_with fail
    exact hP
end Go.Proofs.YteimilnecahifaaGreatDoor

namespace Go.Proofs.YteimilnecahifaaGreatDoor
open Go.RowKit Go.Shelf Go.Maps

/-- What a utility's main does. -/
def UmOut (E : Ev) (md : Option Bool) (M : List Nat) (Q : Int → Sx → Prop) (w : World) (e : Ending) (w2 : World) : Prop :=
  Waits md E M e w w2 ∨ (md ≠ none ∧ ∃ st s2, e = .returned (.int .i64 st) ∧ PS E (some false) w2 s2 M ∧ Kept M w w2 ∧ Q st s2)
/-- What stands when main begins. -/
abbrev s0 (ins : List UInt8) : Sx := ⟨⟨0, ins, [], []⟩, 0, 0, 0⟩
/-- What is asked of a utility's main, in both passes. -/
def HMain (w : World) (ins : List UInt8) (sa : List ByteArray) (l : List (Int × Int)) (l1 l2 l3 : Int) (c0 : KCall) (u0 : Value) (Q : Int → Sx → Prop) : Prop :=
  ∀ (E : Ev) (md : Option Bool) (u : World), PS E md u (s0 ins) [] → md ≠ some false → E.c0 = c0 → E.G.faults = l → (E.G.l1 = l1 ∧ E.G.l2 = l2 ∧ E.G.l3 = l3) → u.ownsRow 0 9 1 E.G.args sa.length (sa.map .string) → Turn [E.G.p] w u → (∀ (b : Nat) (cs : Array Value) (T : Nat) (fz : Nat × Nat), T ≠ 88 → w.heap[b]? = some (.cells cs T fz) → u.heap[b]? = some (.cells cs T fz)) →
    Calls Tryz.prog 83 #[u0, ptr E.G.p] u (UmOut E md [] Q u)

section
variable {w : World} {ins : List UInt8} {sa : List ByteArray} {l : List (Int × Int)} {l1 l2 l3 : Int} {c0 : KCall} {u0 : Value} {Q : Int → Sx → Prop}
/-- The last pass. -/
theorem main_at (h : HMain w ins sa l l1 l2 l3 c0 u0 Q) (G : Gh) (u : World) (e1 : G.faults = l) (e2 : G.l1 = l1 ∧ G.l2 = l2 ∧ G.l3 = l3) (e3 : G.first = c0) (ha : u.ownsRow 0 9 1 G.args sa.length (sa.map .string)) (hT : Turn [] w u) :
    MainAt G u 83 #[u0, ptr G.p] ⟨0, ins, [], []⟩ 0 0 1 (fun st k held peak steps => Q st ⟨k, held, peak, steps⟩) := by
  intro rv v1 v2 hp
  have hrow := PB.rows hp
  obtain ⟨a1, a2, a3, a4, a5, a6, a7, a8, a9, b1, b2, b3, b4⟩ := PB.lts hp
  have hbs := PB.base hp
  have hps : PS ⟨G, u, v1, v2, c0⟩ (some true) u (s0 ins) [] :=
    ⟨⟨rv, v1, v2, hp, by simp, fun b e => ⟨hrow.1 b e, .inl e⟩, fun b e => ⟨hrow.2 b e, .inl e⟩⟩, Turn.refl _ _, fun _ => e3, fun _ => ⟨rfl, rfl, rfl⟩, (show (0 : Int) ≤ 0 ∧ (0 : Int) ≤ 9223372036854775807 ∧ (0 : Int) ≤ 0 by decide), hbs, fun b hb => by
      simp only [List.mem_cons, List.not_mem_nil, or_false] at hb
      show b < u.heap.size
      omega⟩
  refine (h ⟨G, u, v1, v2, c0⟩ (some true) u hps (by simp) rfl e1 e2 ha (hT.mono (by simp)) (fun _ _ _ _ _ h => hT.ob h (by simp))).mono ?_
  rintro e u' (⟨h, _⟩ | ⟨_, st, s2, rfl, hp2, hk, hq⟩)
  · cases h
  · obtain ⟨rv', v1', v2', hp', _⟩ := hp2.ex
    have hp3 : PB G u' false s2.k s2.held s2.peak (s2.steps + 0) rv' v1' v2' := hp'
    rw [Int.add_zero] at hp3
    exact ⟨st, s2.k, s2.held, s2.peak, s2.steps, rv', v1', v2', privL G v1 v2, rfl, hp3, hq, hp2.since, fun b hb => .inl hb⟩
/-- The first pass. -/
theorem main_first (h : HMain w ins sa l l1 l2 l3 c0 u0 Q) (G : Gh) (u : World) (m : Nat) (e1 : G.faults = l) (e2 : G.l1 = l1 ∧ G.l2 = l2 ∧ G.l3 = l3) (ha : u.ownsRow 0 9 1 G.args sa.length (sa.map .string)) (hT : Turn [G.p] w u) (hcl : (∀ (b : Nat) (cs : Array Value) (T : Nat) (fz : Nat × Nat), T ≠ 88 → w.heap[b]? = some (.cells cs T fz) → u.heap[b]? = some (.cells cs T fz))) (hst : ∀ b ∈ [G.kn, G.so, G.s1, G.s2], b < u.heap.size)
    (hp : PrAt u G.p G.kn G.tb G.args G.env G.cwd G.l1 G.l2 G.l3 0 0 G.box G.kin G.isChild (ptr m)) (hm : McAt u m G.p (.func (.func 83) #[u0] #[]) (.slice none 0 0) 0 .nilFunc false 0 false 0) :
    Calls Tryz.prog 83 #[u0, ptr G.p] u fun e u' => e = .panicked waitsP ∧ ∃ f y z, PrAt u' G.p G.kn G.tb G.args G.env G.cwd G.l1 G.l2 G.l3 0 0 G.box G.kin G.isChild (ptr m) ∧ McAt u' m G.p (.func (.func 83) #[u0] #[]) (.slice none 0 0) 0 (.func f y z) false 0 false 0 ∧ Wt { G with m := m, base := u.heap.size } u' c0 (.func f y z) ∧ Turn [m, G.p] u u' := by
  have hps : PS ⟨{ G with m := m, base := u.heap.size, main := .func (.func 83) #[u0] #[] }, u, .slice none 0 0, .slice none 0 0, c0⟩ none u (s0 ins) [] :=
    ⟨⟨.slice none 0 0, .slice none 0 0, .slice none 0 0, ⟨⟨hp, hm, Nat.le_refl _, h_lt hp, h_lt hm⟩, rfl, rfl⟩, by simp, fun b e => by simp [Value.ownBlock] at e, fun b e => by simp [Value.ownBlock] at e⟩, Turn.refl _ _, (fun e => by cases e), fun _ => ⟨rfl, rfl, rfl⟩, (show (0 : Int) ≤ 0 ∧ (0 : Int) ≤ 9223372036854775807 ∧ (0 : Int) ≤ 0 by decide), Nat.le_refl _, hst⟩
  refine (h _ none u hps (by simp) rfl e1 e2 ha hT hcl).mono ?_
  rintro e u' (⟨_, rfl, ⟨nx, ⟨f, y, z, rfl⟩, hwt, hmc⟩, hpr, hTT, _⟩ | ⟨h, _⟩)
  · exact ⟨rfl, f, y, z, hpr, hmc, ⟨hwt.rd, hwt.wr⟩, hTT⟩
  · exact absurd rfl h
theorem zeroU (w : World) : (zeroValue 171).run Tryz.prog w = .ok (.agg #[.string ⟨#[]⟩, .bool false, .nilFunc, .int .i64 0]) w := by kernel_rfl
theorem Started.from {G : Gh} {a b c : World} {f0 : Nat} {e : Ending} (h : Started G b f0 u0 c0 e c) (hB : Below a.heap.size a b) : Started G a f0 u0 c0 e c := by
  obtain ⟨m, base, nx, he, h1, h2, h3, h4, h5, h6, h7, h8⟩ := h
  exact ⟨m, base, nx, he, Nat.le_trans hB.size h1, h2, h3, h4, h5, h6, h7, (Turn.below hB).trans h8⟩
theorem store_fn_new (w : World) (x y3 y4 : Value) (f : Fn) (y z : Array Value) (t : Nat) : (store ⟨w.heap.size, 2, none⟩ (.func f y z)).run Tryz.prog (w.alloc (.cells #[x, y3, .nilFunc, y4] t)) = .ok () (w.alloc (.cells #[x, y3, .func f y z, y4] t)) := by
  have hn : (w.alloc (.cells #[x, y3, .nilFunc, y4] t)).heap[w.heap.size]? = some (.cells #[x, y3, .nilFunc, y4] t (0, 0)) := al_new _ _ rfl
  rw [store_fn f y z (h_cell hn 2 rfl) (h_fz hn 2)]
  simp [go_sem]
end
set_option maxRecDepth 100000 in
set_option maxHeartbeats 4000000 in
/-- Start, up to proc.Go. -/
theorem tstart_g {R : Ending → World → Prop} {u : World} {p kn tb kin : Nat} {args env box runs : Value} {cwd : ByteArray} {l1 l2 l3 held peak : Int} {isChild : Bool} (hp : PrAt u p kn tb args env cwd l1 l2 l3 held peak box kin isChild runs) (nm : ByteArray) (sa : List ByteArray) (hA : u.ownsRow 0 9 1 args (nm :: sa).length ((nm :: sa).map .string)) (hsz : nm.size ≤ 4194304) (hl : (nm :: sa).length ≤ 1048576) {spec : ByteArray} {fd : Nat} {fl : Int} {pl : Bool} {f : ByteArray → Option Value} {mb n : Nat} (hm : MapS u mb n f) (hf : f nm = some (.agg #[.string spec, .bool pl, .func (.func fd) #[] #[], .int .i64 fl]))
    (hgo : ∀ W, Below u.heap.size u W → Calls Tryz.prog 82 #[ptr p, .func (.func 83) #[.agg #[.string spec, .bool pl, .func (.func fd) #[] #[], .int .i64 fl]] #[]] W fun e w' => ∃ m, e = .returned (ptr m) ∧ R e w') :
    Calls Tryz.prog 54 #[ptr p, .map (some mb)] u R := by
  have hmf : ∀ (fn : Fn) (first cap : Array Value) (w : World), (Instr.makeFunc fn first cap).run Tryz.prog w = .ok (.func fn first cap) w := fun _ _ _ _ => rfl
  have hargs := args_p hp (nm :: sa) hl hA
  have HX := Lib.hid hgo
  clear hgo
  go_enter Tryz.func54, Tryz.ntmps54
  go_wp2_with (go_at_call 81; refine hargs.mono ?_; rintro e w1 ⟨av, rfl, ho1, hB1⟩; obtain ⟨ab, ac, acur, rfl, hab, hag, _⟩ := row_shape ho1 (by simp); have a0 : w1.cell? ⟨ab, 0, none⟩ = some (.string nm) := Op.own_cell2 ho1 0 (by simp); have hm1 : (Instr.lookup 102 (.map (some mb)) (.string nm) true).run Tryz.prog w1 = .ok (.tuple #[.agg #[.string spec, .bool pl, .func (.func fd) #[] #[], .int .i64 fl], .bool true]) w1 := (by have hq := (hm.below hB1).look Tryz.underlying102 (zeroU w1) nm (by unfold maxLen; omega); rw [hf] at hq; exact hq); have hsf := store_fn_new w1 (.string spec) (.bool pl) (.int .i64 fl) (.func fd) #[] #[] 171; have hsf2 := store_fn_new w1 (.string spec) (.bool pl) (.int .i64 0) (.func fd) #[] #[] 171; have HB1 := Lib.hid hB1; clear hargs ho1)
  have hB : Below u.heap.size u (w1.alloc (.cells #[.string spec, .bool pl, .func (.func fd) #[] #[], .int .i64 fl] 171)) := HB1.out.alloc HB1.out.size _
  refine (HX.out _ hB).mono ?_
  rintro e w2 ⟨m, rfl, hR⟩
  clear hsf hsf2 hm1 a0 hag hab
  go_wp2_with fail
  exact hR
section
variable {w : World} {ins : List UInt8} {sa : List ByteArray} {l : List (Int × Int)} {l1 l2 l3 : Int} {c0 : KCall} {Q : Int → Sx → Prop}
set_option maxHeartbeats 2000000 in
/-- A utility whose main makes a call. -/
theorem tstart_c {spec : ByteArray} {fd : Nat} {fl : Int} {pl : Bool} {f : ByteArray → Option Value} {mb n : Nat} {G : Gh} {u : World} {rv : Value} {nm : ByteArray} (h : HMain w ins (nm :: sa) l l1 l2 l3 c0 (.agg #[.string spec, .bool pl, .func (.func fd) #[] #[], .int .i64 fl]) Q) (hsz : nm.size ≤ 4194304) (hl : (nm :: sa).length ≤ 1048576) (hR : Rdy G u ins (nm :: sa) rv) (e1 : G.faults = l) (e2 : G.l1 = l1 ∧ G.l2 = l2 ∧ G.l3 = l3) (hT : Turn [] w u) (hm : MapS u mb n f) (hf : f nm = some (.agg #[.string spec, .bool pl, .func (.func fd) #[] #[], .int .i64 fl])) (hcf : ∀ (z : Array Value) (u : World), (callFunc 83 z).run Tryz.prog u = .ok (.enter 83 z) u) :
    Calls Tryz.prog 54 #[ptr G.p, .map (some mb)] u (Started G u 83 (.agg #[.string spec, .bool pl, .func (.func fd) #[] #[], .int .i64 fl]) c0) := by
  refine tstart_g hR.pr nm sa hR.av hsz hl hm hf (fun W hB => ?_)
  obtain ⟨c1, c2, c3⟩ := hR.cw
  have hst : ∀ b ∈ [G.kn, G.so, G.s1, G.s2], b < u.heap.size := fun b hb => by
    have := hR.lt
    simp only [List.mem_cons, List.not_mem_nil, or_false] at hb
    omega
  have hTW : Turn [] u W := Turn.below hB
  have hPW := hTW.ob hR.pr (by simp)
  have hgo := go_firstB (R := fun m nx held' peak' u' => held' = 0 ∧ peak' = 0 ∧ ∃ base, m < base ∧ base ≤ u'.heap.size ∧ Wt { G with m := m, base := base } u' c0 nx) hPW (hcf _) (fun v m em hp hm hTv => by
    have hps : PrAt v G.p G.kn G.tb G.args G.env G.cwd G.l1 G.l2 G.l3 0 0 G.box G.kin G.isChild (ptr m) := by rw [c1, c2, c3]; exact hp
    refine (main_first h G v m e1 e2 (own_turn (own_turn hR.av hTW (by simp)) hTv (fun g hg e => ?_)) ((hT.mono (by simp)).trans ((hTW.mono (by simp)).trans hTv)) (fun b cs T fz hne hb => (hTv.block b (Nat.lt_of_lt_of_le (h_lt hb) (Nat.le_trans hT.size hTW.size)) (fun e => by
      have e : b = G.p := by simpa using e
      have h1 := hT.ob hb (by simp)
      rw [e, hR.pr] at h1
      cases h1
      exact hne rfl)).trans (hTW.ob (hT.ob hb (by simp)) (by simp))) (fun b hb => Nat.lt_of_lt_of_le (hst b hb) (Nat.le_trans hTW.size hTv.size)) hps hm).mono ?_
    · obtain rfl : g = G.p := by simpa using e
      exact row_ne hR.av hR.pr (by decide) hg
    · rintro e v' ⟨rfl, f, y, z, h1, h2, h3, h4⟩
      rw [c1, c2, c3] at h1
      exact ⟨rfl, f, y, z, 0, 0, h1, h2, ⟨rfl, rfl, v.heap.size, h_lt hm, h4.size, h3⟩, h4⟩)
  refine hgo.mono ?_
  rintro e w9 ⟨m, f, y, z, held', peak', u', rfl, rfl, ⟨rfl, rfl, base, hb1, hb2, hwt⟩, hp9, hm9, hT9, hT8⟩
  have hws := hTW.size
  have hpl := hR.lt.1
  exact ⟨W.heap.size, rfl, W.heap.size, base, .func f y z, rfl, hws, hb1, Nat.le_trans hb2 hT9.size, hp9, hm9, ⟨f, y, z, rfl⟩, hwt.keep hT9 (fun b hb => by
    obtain rfl : b = G.p := by simpa using hb
    show G.p < base
    omega), (hTW.mono (by simp)).trans (hT8.trans hT9)⟩
/-- A utility whose main makes no call. -/
theorem tstart_z {st : Int} {spec : ByteArray} {fd : Nat} {fl : Int} {pl : Bool} {f : ByteArray → Option Value} {mb n : Nat} {G : Gh} {u : World} {rv : Value} {nm : ByteArray} (hz : ∀ v m, PrAt v G.p G.kn G.tb G.args G.env sE G.l1 G.l2 G.l3 0 0 .nilIface G.kin false (ptr m) → v.ownsRow 0 9 1 G.args (nm :: sa).length ((nm :: sa).map .string) → Calls Tryz.prog 83 #[.agg #[.string spec, .bool pl, .func (.func fd) #[] #[], .int .i64 fl], ptr G.p] v fun e u' => e = .returned (.int .i64 st) ∧ Turn [] v u') (hsz : nm.size ≤ 4194304) (hl : (nm :: sa).length ≤ 1048576) (hR : Rdy G u ins (nm :: sa) rv) (hm : MapS u mb n f) (hf : f nm = some (.agg #[.string spec, .bool pl, .func (.func fd) #[] #[], .int .i64 fl])) (hcf : ∀ (z : Array Value) (u : World), (callFunc 83 z).run Tryz.prog u = .ok (.enter 83 z) u) :
    Calls Tryz.prog 54 #[ptr G.p, .map (some mb)] u (EndedZ G u ins rv st) := by
  refine tstart_g hR.pr nm sa hR.av hsz hl hm hf (fun W hB => ?_)
  obtain ⟨c1, c2, c3⟩ := hR.cw
  have hTW : Turn [] u W := Turn.below hB
  have hPW := hTW.ob hR.pr (by simp)
  have hps : PrAt W G.p G.kn G.tb G.args G.env G.cwd G.l1 G.l2 G.l3 0 0 G.box G.kin G.isChild (.pointer none) := by rw [c1, c2, c3]; exact hPW
  have hk := hR.ki.keep hTW (by simp)
  have hgo := go_endsZ (st := st) hps hk hR.fm (hcf _) (fun v m hp hTv => by
    rw [c1, c2, c3] at hp
    exact hz v m hp (own_turn (own_turn hR.av hTW (by simp)) hTv (fun g hg e => by
      obtain rfl : g = G.p := by simpa using e
      exact row_ne hR.av hR.pr (by decide) hg)))
  refine hgo.mono ?_
  rintro e w9 ⟨m, rfl, hm1, hm2, hF, hT9⟩
  exact ⟨m, rfl, m, rfl, Nat.le_trans hTW.size hm1, hm2, hF, (hTW.mono (by simp)).trans hT9⟩
end
end Go.Proofs.YteimilnecahifaaGreatDoor

namespace Go.Proofs.YteimilnecahifaaGreatDoor
open Go.RowKit Go.Shelf Go.Maps

section
variable {E : Ev} {md : Option Bool} {w : World} {s : Sx} {M : List Nat} {tk : Nat} {lv ov : Value} {st fa : Int} {sl he : Bool}
/-- What telling comes to. -/
def ToldOut (E : Ev) (md : Option Bool) (s : Sx) (M : List Nat) (bs : List UInt8) (w : World) (e : Ending) (w' : World) : Prop :=
  Waits md E M e w w' ∨ (e = .returned (.bool true) ∧ ∃ md' s', (bs = [] → md' = md) ∧ (bs ≠ [] → md' = some false) ∧ Wrote E.G.faults s s' false bs ∧ PS E md' w' s' M ∧ Kept M w w' ∧ (md' = md ∨ md ≠ none))
set_option maxRecDepth 100000 in
set_option maxHeartbeats 2000000 in
theorem tkwrite_c (h : PS E md w s M) (ht : TkN w tk E.G.p lv ov st sl fa he) (nm : ByteArray) (v : Value) (bs : List UInt8) (hb : ByAt w v bs) (hv : ∀ b off n c, v = .slice (some ⟨b, off, none⟩) n c → b ∈ M) (hL : bs.length ≤ 1073741824) (hu : s.k.used ≤ E.G.faults.length) (hO : s.k.out.length + bs.length ≤ 549755813888 ∧ s.k.err.length + bs.length ≤ 549755813888) (hst : s.steps + bs.length + E.G.faults.length < 4611686018427387903) (hc : bs ≠ [] → md ≠ some false → E.c0 = .write false bs) :
    Calls Tryz.prog 156 #[ptr tk, .int .i64 1, .string nm, v] w (ToldOut E md s M bs w) := by
  have hw := swrite_n h false v bs hb hv hL hu hO hst hc
  have t0 : w.cell? ⟨tk, 0, none⟩ = some (ptr E.G.p) := h_cell ht 0 rfl
  obtain ⟨xa, cp, rfl⟩ := hb.shape
  clear h ht hb hv hL hu hO hst hc
  simp only [Bool.false_eq_true, if_false] at hw
  go_enter Tryz.func156, Tryz.ntmps156
  go_wp2_with (go_at_call 189; refine hw.mono ?_; rintro e w2 (⟨hmd, rfl, hW⟩ | ⟨rfl, md', s', h1, h2, h3, h4, h5⟩); (· exact ⟨rfl, .inl ⟨hmd, rfl, hW⟩⟩))
  go_ret
  exact .inr ⟨rfl, md', s', h1, h2, h3, h4, h5⟩
set_option maxRecDepth 100000 in
set_option maxHeartbeats 2000000 in
theorem tktell_c (h : PS E md w s M) (ht : TkN w tk E.G.p lv ov st sl fa he) (v : Value) (bs : List UInt8) (hb : ByAt w v bs) (hv : ∀ b off n c, v = .slice (some ⟨b, off, none⟩) n c → b ∈ M) (hL : bs.length ≤ 1073741824) (hu : s.k.used ≤ E.G.faults.length) (hO : s.k.out.length + bs.length ≤ 549755813888 ∧ s.k.err.length + bs.length ≤ 549755813888) (hst : s.steps + bs.length + E.G.faults.length < 4611686018427387903) (hc : bs ≠ [] → md ≠ some false → E.c0 = .write false bs) :
    Calls Tryz.prog 121 #[ptr tk, v] w (ToldOut E md s M bs w) := by
  have hw := tkwrite_c h ht ⟨#[115, 116, 97, 110, 100, 97, 114, 100, 32, 111, 117, 116, 112, 117, 116]⟩ v bs hb hv hL hu hO hst hc
  obtain ⟨xa, cp, rfl⟩ := hb.shape
  clear h ht hb hv hL hu hO hst hc
  go_enter Tryz.func121, Tryz.ntmps121
  go_wp2_with (go_at_call 156; refine hw.mono ?_; rintro e w2 (⟨hmd, rfl, hW⟩ | ⟨rfl, md', s', h1, h2, h3, h4, h5⟩); (· exact ⟨rfl, .inl ⟨hmd, rfl, hW⟩⟩))
  go_ret
  exact .inr ⟨rfl, md', s', h1, h2, h3, h4, h5⟩
end
end Go.Proofs.YteimilnecahifaaGreatDoor
