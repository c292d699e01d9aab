/- task.Start: a utility's machine, which waits at its first call. -/
import Derived.Test.YtfkoehfkiommpaaGreatDoorMSet
import Derived.Test.YtfkoehfkiommpaaGreatDoorMGoGoB
import Derived.Shelf.RegionOpen
import Derived.Deep.RegionWith
import Derived.Test.YtfkoehfkiommpaaGreatDoorYSame
import Derived.RangeFuncNested
import Derived.RangeFuncBound
import Derived.RangeFuncCalls
import Derived.RangeFuncLeaves
namespace Go.Proofs.YtfkoehfkiommpaaGreatDoor
open Go.RowKit Go.Shelf Go.Maps

/-- What stands when main begins. -/
abbrev s0 (ins : List UInt8) : Sx := ⟨⟨0, ins, [], []⟩, 0, 0, 0⟩
/-- What is asked of a utility's main, in both passes. -/
def HMain (w : World) (ins : List UInt8) (sa : List ByteArray) (l : List (Int × Int)) (l1 l2 l3 : Int) (c0 : KCall) (u0 : Value) (Q : Int → Sx → Prop) : Prop :=
  ∀ (E : Ev) (md : Option Bool) (u : World), PS E md u (s0 ins) [] → md ≠ some false → E.c0 = c0 → E.G.faults = l → (E.G.l1 = l1 ∧ E.G.l2 = l2 ∧ E.G.l3 = l3) → u.ownsRow 0 9 1 E.G.args sa.length (sa.map .string) → Turn [E.G.p] w u → (∀ (b : Nat) (n : Int), w.cell? ⟨b, 0, none⟩ = some (.int .i64 n) → u.cell? ⟨b, 0, none⟩ = some (.int .i64 n)) →
    Calls Tryz.prog 119 #[u0, ptr E.G.p] u (UmOut E md [] Q u)

section
variable {w : World} {ins : List UInt8} {sa : List ByteArray} {l : List (Int × Int)} {l1 l2 l3 : Int} {c0 : KCall} {u0 : Value} {Q : Int → Sx → Prop}
/-- The last pass. -/
theorem main_at (h : HMain w ins sa l l1 l2 l3 c0 u0 Q) (G : Gh) (u : World) (e1 : G.faults = l) (e2 : G.l1 = l1 ∧ G.l2 = l2 ∧ G.l3 = l3) (e3 : G.first = c0) (ha : u.ownsRow 0 9 1 G.args sa.length (sa.map .string)) (hT : Turn [] w u) :
    MainAt G u 119 #[u0, ptr G.p] ⟨0, ins, [], []⟩ 0 0 1 (fun st k held peak steps => Q st ⟨k, held, peak, steps⟩) := by
  intro rv v1 v2 hp
  have hrow := PB.rows hp
  obtain ⟨a1, a2, a3, a4, a5, a6, a7, a8, a9, b1, b2, b3, b4⟩ := PB.lts hp
  have hbs := PB.base hp
  have hps : PS ⟨G, u, v1, v2, c0⟩ (some true) u (s0 ins) [] :=
    ⟨⟨rv, v1, v2, hp, by simp, fun b e => ⟨hrow.1 b e, .inl e⟩, fun b e => ⟨hrow.2 b e, .inl e⟩⟩, Turn.refl _ _, fun _ => e3, fun _ => ⟨rfl, rfl, rfl⟩, (show (0 : Int) ≤ 0 ∧ (0 : Int) ≤ 9223372036854775807 ∧ (0 : Int) ≤ 0 by decide), hbs, fun b hb => by
      simp only [List.mem_cons, List.not_mem_nil, or_false] at hb
      show b < u.heap.size
      omega⟩
  refine (h ⟨G, u, v1, v2, c0⟩ (some true) u hps (by simp) rfl e1 e2 ha (hT.mono (by simp)) (fun _ _ h => hT.cell h (by simp))).mono ?_
  rintro e u' (⟨h, _⟩ | ⟨_, st, s2, rfl, hp2, hk, hq⟩)
  · cases h
  · obtain ⟨rv', v1', v2', hp', _⟩ := hp2.ex
    have hp3 : PB G u' false s2.k s2.held s2.peak (s2.steps + 0) rv' v1' v2' := hp'
    rw [Int.add_zero] at hp3
    exact ⟨st, s2.k, s2.held, s2.peak, s2.steps, rv', v1', v2', privL G v1 v2, rfl, hp3, hq, hp2.since, fun b hb => .inl hb⟩
/-- The first pass. -/
theorem main_first (h : HMain w ins sa l l1 l2 l3 c0 u0 Q) (G : Gh) (u : World) (m : Nat) (e1 : G.faults = l) (e2 : G.l1 = l1 ∧ G.l2 = l2 ∧ G.l3 = l3) (ha : u.ownsRow 0 9 1 G.args sa.length (sa.map .string)) (hT : Turn [G.p] w u) (hcl : (∀ (b : Nat) (n : Int), w.cell? ⟨b, 0, none⟩ = some (.int .i64 n) → u.cell? ⟨b, 0, none⟩ = some (.int .i64 n))) (hst : ∀ b ∈ [G.kn, G.so, G.s1, G.s2], b < u.heap.size)
    (hp : PrAt u G.p G.kn G.tb G.args G.env G.cwd G.l1 G.l2 G.l3 0 0 G.box G.kin G.isChild (ptr m)) (hm : McAt u m G.p (.func (.func 119) #[u0] #[]) (.slice none 0 0) 0 .nilFunc false 0 false 0) :
    Calls Tryz.prog 119 #[u0, ptr G.p] u fun e u' => e = .panicked waitsP ∧ ∃ f y z, PrAt u' G.p G.kn G.tb G.args G.env G.cwd G.l1 G.l2 G.l3 0 0 G.box G.kin G.isChild (ptr m) ∧ McAt u' m G.p (.func (.func 119) #[u0] #[]) (.slice none 0 0) 0 (.func f y z) false 0 false 0 ∧ Wt { G with m := m, base := u.heap.size } u' c0 (.func f y z) ∧ Turn [m, G.p] u u' := by
  have hps : PS ⟨{ G with m := m, base := u.heap.size, main := .func (.func 119) #[u0] #[] }, u, .slice none 0 0, .slice none 0 0, c0⟩ none u (s0 ins) [] :=
    ⟨⟨.slice none 0 0, .slice none 0 0, .slice none 0 0, ⟨⟨hp, hm, Nat.le_refl _, h_lt hp, h_lt hm⟩, rfl, rfl⟩, by simp, fun b e => by simp [Value.ownBlock] at e, fun b e => by simp [Value.ownBlock] at e⟩, Turn.refl _ _, (fun e => by cases e), fun _ => ⟨rfl, rfl, rfl⟩, (show (0 : Int) ≤ 0 ∧ (0 : Int) ≤ 9223372036854775807 ∧ (0 : Int) ≤ 0 by decide), Nat.le_refl _, hst⟩
  refine (h _ none u hps (by simp) rfl e1 e2 ha hT hcl).mono ?_
  rintro e u' (⟨_, rfl, ⟨nx, ⟨f, y, z, rfl⟩, hwt, hmc⟩, hpr, hTT, _⟩ | ⟨h, _⟩)
  · exact ⟨rfl, f, y, z, hpr, hmc, ⟨hwt.rd, hwt.wr⟩, hTT⟩
  · exact absurd rfl h
theorem zeroU (w : World) : (zeroValue 208).run Tryz.prog w = .ok (.agg #[.string ⟨#[]⟩, .nilFunc]) w := by kernel_rfl
theorem Started.from {G : Gh} {a b c : World} {f0 : Nat} {e : Ending} (h : Started G b f0 u0 c0 e c) (hB : Below a.heap.size a b) : Started G a f0 u0 c0 e c := by
  obtain ⟨m, base, nx, he, h1, h2, h3, h4, h5, h6, h7, h8⟩ := h
  exact ⟨m, base, nx, he, Nat.le_trans hB.size h1, h2, h3, h4, h5, h6, h7, (Turn.below hB).trans h8⟩
theorem store_fn_new (w : World) (x : Value) (f : Fn) (y z : Array Value) (t : Nat) : (store ⟨w.heap.size, 1, none⟩ (.func f y z)).run Tryz.prog (w.alloc (.cells #[x, .nilFunc] t)) = .ok () (w.alloc (.cells #[x, .func f y z] t)) := by
  have hn : (w.alloc (.cells #[x, .nilFunc] t)).heap[w.heap.size]? = some (.cells #[x, .nilFunc] t (0, 0)) := al_new _ _ rfl
  rw [store_fn f y z (h_cell hn 1 rfl) (h_fz hn 1)]
  simp [go_sem]
set_option maxRecDepth 100000 in
set_option maxHeartbeats 4000000 in
theorem tstart_c {spec : ByteArray} {fd : Nat} {f : ByteArray → Option Value} {mb n : Nat} {G : Gh} {u : World} {rv : Value} (h : HMain w ins sa l l1 l2 l3 c0 (.agg #[.string spec, .func (.func fd) #[] #[]]) Q) (nm : ByteArray) (hnm : sa[0]? = some nm) (hsz : nm.size ≤ 4194304) (hl : sa.length ≤ 1048576) (hR : Rdy G u ins sa rv) (e1 : G.faults = l) (e2 : G.l1 = l1 ∧ G.l2 = l2 ∧ G.l3 = l3) (hT : Turn [] w u) (hm : MapS u mb n f) (hf : f nm = some (.agg #[.string spec, .func (.func fd) #[] #[]])) (hcf : ∀ (z : Array Value) (u : World), (callFunc 119 z).run Tryz.prog u = .ok (.enter 119 z) u) :
    Calls Tryz.prog 74 #[ptr G.p, .map (some mb)] u (Started G u 119 (.agg #[.string spec, .func (.func fd) #[] #[]]) c0) := by
  have hmf : ∀ (fn : Fn) (first cap : Array Value) (w : World), (Instr.makeFunc fn first cap).run Tryz.prog w = .ok (.func fn first cap) w := fun _ _ _ _ => rfl
  obtain ⟨sa', rfl⟩ : ∃ sa', sa = nm :: sa' := by
    cases sa with
    | nil => simp at hnm
    | cons a b => exact ⟨b, by simp at hnm; rw [hnm]⟩
  clear hnm
  have hargs := args_p hR.pr (nm :: sa') hl hR.av
  have HX := Lib.hid (And.intro hR (And.intro h (And.intro hT (And.intro e1 e2))))
  clear hR h hT e1 e2
  go_enter Tryz.func74, Tryz.ntmps74
  go_wp2_with (go_at_call 117; refine hargs.mono ?_; rintro e w1 ⟨av, rfl, ho1, hB1⟩; obtain ⟨ab, ac, acur, rfl, hab, hag, _⟩ := row_shape ho1 (by simp); have a0 : w1.cell? ⟨ab, 0, none⟩ = some (.string nm) := Op.own_cell2 ho1 0 (by simp); have hm1 : (Instr.lookup 140 (.map (some mb)) (.string nm) true).run Tryz.prog w1 = .ok (.tuple #[.agg #[.string spec, .func (.func fd) #[] #[]], .bool true]) w1 := (by have hq := (hm.below hB1).look Tryz.underlying140 (zeroU w1) nm (by unfold maxLen; omega); rw [hf] at hq; exact hq); have hsf := store_fn_new w1 (.string spec) (.func fd) #[] #[] 208; have HB1 := Lib.hid (And.intro hB1 ho1); clear hargs hm hB1 ho1)
  obtain ⟨hR, hM, hT, e1, e2⟩ := HX.out
  obtain ⟨c1, c2, c3⟩ := hR.cw
  have hB : Below u.heap.size u (w1.alloc (.cells #[.string spec, .func (.func fd) #[] #[]] 208)) := HB1.out.1.alloc HB1.out.1.size _
  have hst : ∀ b ∈ [G.kn, G.so, G.s1, G.s2], b < u.heap.size := fun b hb => by
    have := hR.lt
    simp only [List.mem_cons, List.not_mem_nil, or_false] at hb
    omega
  have hpl := hR.lt.1
  clear hsf hm1 a0 hag hab HB1
  generalize w1.alloc (.cells #[.string spec, .func (.func fd) #[] #[]] 208) = W at hB ⊢
  have hTW : Turn [] u W := Turn.below hB
  have hPW := hTW.ob hR.pr (by simp)
  have hgo := go_firstB (R := fun m nx held' peak' u' => held' = 0 ∧ peak' = 0 ∧ ∃ base, m < base ∧ base ≤ u'.heap.size ∧ Wt { G with m := m, base := base } u' c0 nx) hPW (hcf _) (fun v m em hp hm hTv => by
    have hps : PrAt v G.p G.kn G.tb G.args G.env G.cwd G.l1 G.l2 G.l3 0 0 G.box G.kin G.isChild (ptr m) := by rw [c1, c2, c3]; exact hp
    refine (main_first hM G v m e1 e2 (own_turn (own_turn hR.av hTW (by simp)) hTv (fun g hg e => ?_)) ((hT.mono (by simp)).trans ((hTW.mono (by simp)).trans hTv)) (fun b n hb => hTv.cell (hTW.cell (hT.cell hb (by simp)) (by simp)) (fun e => by
      have e : b = G.p := by simpa using e
      have h1 := hT.cell hb (by simp)
      rw [e, h_cell hR.pr 0 rfl] at h1
      cases h1)) (fun b hb => Nat.lt_of_lt_of_le (hst b hb) (Nat.le_trans hTW.size hTv.size)) hps hm).mono ?_
    · obtain rfl : g = G.p := by simpa using e
      exact row_ne hR.av hR.pr (by decide) hg
    · rintro e v' ⟨rfl, f, y, z, h1, h2, h3, h4⟩
      rw [c1, c2, c3] at h1
      exact ⟨rfl, f, y, z, 0, 0, h1, h2, ⟨rfl, rfl, v.heap.size, h_lt hm, h4.size, h3⟩, h4⟩)
  refine hgo.mono ?_
  rintro e w9 ⟨m, f, y, z, held', peak', u', rfl, rfl, ⟨rfl, rfl, base, hb1, hb2, hwt⟩, hp9, hm9, hT9, hT8⟩
  go_wp2_with fail
  go_ret
  have hws := hTW.size
  exact ⟨W.heap.size, base, .func f y z, rfl, hws, hb1, Nat.le_trans hb2 hT9.size, hp9, hm9, ⟨f, y, z, rfl⟩, hwt.keep hT9 (fun b hb => by
    obtain rfl : b = G.p := by simpa using hb
    show G.p < base
    omega), (hTW.mono (by simp)).trans (hT8.trans hT9)⟩
end
end Go.Proofs.YtfkoehfkiommpaaGreatDoor

namespace Go.Proofs.YtfkoehfkiommpaaGreatDoor
open Go.RowKit Go.Shelf Go.Maps

/-- What a run comes to. -/
def RunOut (w : World) (Q : Int → Sx → Prop) (e : Ending) (w' : World) : Prop :=
  ∃ ov ev st s2, e = .returned (.tuple #[.agg #[ov, ev, .int .i64 st, .slice none 0 0, .int .i64 s2.steps, .int .i64 s2.peak, .int .i64 s2.k.used], .bool true]) ∧ w'.ownsRow w.heap.size 5 1 ov s2.k.out.length (u8s s2.k.out) ∧ w'.ownsRow w.heap.size 5 1 ev s2.k.err.length (u8s s2.k.err) ∧ Q st s2 ∧ Below w.heap.size w w'
theorem util_run {u0 : Value} {c0 : KCall} {Q : Int → Sx → Prop} (hN : PNewSays) (av ev iv : Value) (fv : Value) (fb : Nat) (l : List (Int × Int)) (sa se : List ByteArray) (ins : List UInt8) (l1 l2 l3 now m : Int) (sf : Nat) (w : World) (hm : w.cell? ⟨0, 0, none⟩ = some (.int .i64 m)) (ha : SsAt w av sa) (he : SsAt w ev se) (hi : ByAt w iv ins) (hF : Fl w fv fb l) (hna : 0 < sa.length) (hla : sa.length ≤ 1048576) (hle : se.length ≤ 1048576) (hli : ins.length ≤ 1048576) (hlf : l.length ≤ 1048576) (h1 : 1 ≤ l1 ∧ l1 ≤ 1099511627776) (h2 : 1 ≤ l2 ∧ l2 ≤ 1099511627776) (h3 : 1 ≤ l3 ∧ l3 ≤ 1099511627776) (hl : l2 ≤ l3) (hn : 0 ≤ now ∧ now ≤ 1099511627776) (hmild : Mild l) (hc0 : CallOk c0)
    (hQ : ∀ st s2, Q st s2 → s2.k.out.length ≤ 1048576 ∧ s2.k.err.length ≤ 1048576)
    (hcs : ∀ (z : Array Value) (u : World), (callFunc sf z).run Tryz.prog u = .ok (.enter sf z) u) (hcf : ∀ (z : Array Value) (u : World), (callFunc 119 z).run Tryz.prog u = .ok (.enter 119 z) u)
    (hM : HMain w ins sa l l1 l2 l3 c0 u0 Q)
    (hstart : ∀ (G : Gh) (u : World) (rv : Value), Rdy G u ins sa rv → G.faults = l → G.l1 = l1 ∧ G.l2 = l2 ∧ G.l3 = l3 → Turn [] w u → Calls Tryz.prog sf #[ptr G.p] u (Started G u 119 u0 c0)) :
    Calls Tryz.prog 41 #[jobV av ev iv l1 l2 l3 fv now (.slice none 0 0), .func (.func sf) #[] #[]] w (RunOut w Q) := by
  refine (run_c (Q := fun st k held peak steps => Q st ⟨k, held, peak, steps⟩) hN av ev iv fv fb l sa se ins l1 l2 l3 now m sf w hm ha he hi hF hna hla hle hli hlf h1 h2 h3 hl hn hmild hc0 (fun st k' held' peak' steps' h => hQ _ _ h) hcs hcf hstart (fun G u e1 e2 e3 _ ha hT => main_at hM G u e1 e2 e3 ha hT)).mono ?_
  rintro e w' ⟨ov, ev, st, k', held', peak', steps', rfl, h1, h2, hq, hB⟩
  exact ⟨ov, ev, st, ⟨k', held', peak', steps'⟩, rfl, h1, h2, hq, hB⟩
end Go.Proofs.YtfkoehfkiommpaaGreatDoor

namespace Go.Proofs.YtfkoehfkiommpaaGreatDoor
open Go.RowKit Go.Shelf Go.Maps

theorem fails_c (v : Value) (w : World) : Calls Tryz.prog 189 #[v, .int .i64 0] w fun e w' => e = .returned (.bool false) ∧ w' = w := by
  go_enter Tryz.func189, Tryz.ntmps189
  go_wp2
  go_ret
  exact ⟨rfl, rfl⟩
section
variable {E : Ev} {md : Option Bool} {w : World} {s : Sx} {M : List Nat} {tk : Nat} {opts operands : Value} {status : Int} {heard : Bool}
/-- What opening comes to. -/
def OpOut (E : Ev) (md : Option Bool) (s : Sx) (tk : Nat) (M : List Nat) (w : World) (e : Ending) (w' : World) : Prop :=
  ∃ inb r, e = .returned (ptr inb) ∧ w.heap.size ≤ inb ∧ PS E md w' s (rdL r (.slice none 0 0) ++ (inb :: tk :: M)) ∧ RdI E w' r (.slice none 0 0) [] 0 false false (inb :: tk :: M) ∧ InAt w' inb s_dash tk (ptr r) false ∧ Kept (tk :: M) w w'
set_option maxRecDepth 100000 in
set_option maxHeartbeats 4000000 in
theorem topen_c (hp : PS E md w s (tk :: M)) (ht : TkAt w tk E.G.p opts operands status heard) : Calls Tryz.prog 218 #[ptr tk, .string s_dash] w (OpOut E md s tk M w) := by
  have hB0 : Below w.heap.size w (w.alloc (.cells #[.string s_dash, ptr tk, .int .i64 0, .pointer none, .bool false] 299)) := (Below.refl _ w).alloc (Nat.le_refl _) _
  have hi0 : (w.alloc (.cells #[.string s_dash, ptr tk, .int .i64 0, .pointer none, .bool false] 299)).heap[w.heap.size]? = some (.cells #[.string s_dash, ptr tk, .int .i64 0, .pointer none, .bool false] 299 (0, 0)) := al_new _ _ rfl
  have ht0 : TkAt (w.alloc (.cells #[.string s_dash, ptr tk, .int .i64 0, .pointer none, .bool false] 299)) tk E.G.p opts operands status heard := al_old _ ht
  have htl := h_lt ht
  have hp0 : PS E md (w.alloc (.cells #[.string s_dash, ptr tk, .int .i64 0, .pointer none, .bool false] 299)) s (w.heap.size :: tk :: M) := hp.own (Turn.below (S := []) hB0) (by simp) (fun b hb => by
    rcases List.mem_cons.1 hb with rfl | h
    · exact .inr ⟨Nat.le_refl _, by simp⟩
    · exact .inl h)
  have hk0 : Kept (tk :: M) w (w.alloc (.cells #[.string s_dash, ptr tk, .int .i64 0, .pointer none, .bool false] 299)) := Kept.below hB0
  obtain ⟨_, _, _, _, m1, _⟩ := hp.ex
  have hM : ∀ b ∈ tk :: M, b < w.heap.size := fun b hb => (m1 b hb).1
  have hw0 := hp.since.size
  clear hp ht hB0 m1
  have ho := openDash_c (ptr E.G.p)
  have hn := rdnew_c hp0
  have t0 : (w.alloc (.cells #[.string s_dash, ptr tk, .int .i64 0, .pointer none, .bool false] 299)).cell? ⟨tk, 0, none⟩ = some (ptr E.G.p) := h_cell ht0 0 rfl
  have i2 : (w.alloc (.cells #[.string s_dash, ptr tk, .int .i64 0, .pointer none, .bool false] 299)).cell? ⟨w.heap.size, 2, none⟩ = some (.int .i64 0) := h_cell hi0 2 rfl
  have HX := Lib.hid (And.intro hi0 (And.intro hk0 (And.intro hM hw0)))
  clear hi0 ht0 hp0 hk0 hM
  go_enter Tryz.func218, Tryz.ntmps218
  go_wp2_with (first
    | (go_at_call 237; refine (ho _).mono ?_; rintro e w1 ⟨rfl, hw1⟩; rw [hw1]; clear hw1)
    | (go_at_call 189; refine (fails_c _ _).mono ?_; rintro e w1 ⟨rfl, hw1⟩; rw [hw1]; clear hw1)
    | (go_at_call 238; refine hn.mono ?_; rintro e w2 ⟨r, rfl, hr2, hp2, hR2, hk2⟩; have hi2 := hk2.ob HX.out.1 (by simp); have k2 := h_cell hi2 2 rfl; have z2 := h_fz hi2 2; have k3 := h_cell hi2 3 rfl; have z3 := h_fz hi2 3; have HY := Lib.hid (And.intro hr2 (And.intro hp2 (And.intro hR2 (And.intro hk2 hi2)))); clear hr2 hp2 hR2 hk2 hi2 hn))
  go_ret
  obtain ⟨hi0, hk0, hM, hw0⟩ := HX.out
  obtain ⟨hr2, hp2, hR2, hk2, hi2⟩ := HY.out
  have hT : Turn [w.heap.size] w2 ((w2.setCell ⟨w.heap.size, 2, none⟩ (.int .i64 0)).setCell ⟨w.heap.size, 3, none⟩ (ptr r)) := (Turn.set _ _ _ _ (by simp)).trans (Turn.set _ _ _ _ (by simp))
  have hrn : r ≠ w.heap.size := by
    have : w.heap.size + 1 ≤ r := by simpa using hr2
    omega
  refine ⟨w.heap.size, r, rfl, Nat.le_refl _, hp2.own hT (fun b hb => ?_) (fun b hb => .inl (by simpa [rdL, Value.ownBlock] using hb)), ⟨hT.ob hR2.cs (by simpa using hrn), .inl ⟨rfl, rfl⟩, hR2.ne, hR2.dis, hR2.new, hR2.last0⟩, ?_, (hk0.trans (hk2.less (fun x hx => List.mem_cons_of_mem _ hx))).trans ⟨_, hT, fun b hb e => ?_⟩⟩
  · have e : b = w.heap.size := by simpa using hb
    rw [e]
    exact ⟨hw0, .inl (by simp)⟩
  · have := h_set (h_set hi2 2 (.int .i64 0)) 3 (ptr r)
    simpa using this
  · have e2 : b = w.heap.size := by simpa using e
    have := hM b hb
    omega
set_option maxRecDepth 100000 in
set_option maxHeartbeats 4000000 in
theorem tclose_c {inb r : Nat} {av : Value} {ah : List UInt8} {last : Int} {feed ended failed : Bool} (hp : PS E md w s (rdL r av ++ (inb :: tk :: M))) (hR : RdI E w r av ah last feed ended (inb :: tk :: M)) (hI : InAt w inb s_dash tk (ptr r) failed) (ht : w.cell? ⟨tk, 0, none⟩ = some (ptr E.G.p)) (hi0 : E.W0.heap.size ≤ inb) (hit : inb ∉ tk :: M) :
    Calls Tryz.prog 219 #[ptr inb] w fun e w' => (∃ v, e = .returned v) ∧ PS E md w' ((s.drops last).drops ah.length) (tk :: M) ∧ Kept (tk :: M) w w' := by
  have hfr := free_c hp hR
  have i3 : w.cell? ⟨inb, 3, none⟩ = some (ptr r) := h_cell hI 3 rfl
  have hcl := close0_c (ptr E.G.p)
  have q1 : ∀ (a : Addr) (w : World), (binOp .eql 297 (.pointer (some a)) (.pointer none)).run Tryz.prog w = .ok (.bool false) w := fun a w => by kernel_rfl
  have HX := Lib.hid (And.intro hI ht)
  clear hp hR hI ht
  go_enter Tryz.func219, Tryz.ntmps219
  go_wp2_with (go_at_call 239; refine hfr.mono ?_; rintro e w1 ⟨⟨v, rfl⟩, hp1, hk1⟩; have hi1 := hk1.ob HX.out.1 (by simp); have k3 := h_cell hi1 3 rfl; have z3 := h_fz hi1 3; have htn : tk ≠ inb := (fun e => hit (by simp [e])); have hi2 : InAt (w1.setCell ⟨inb, 3, none⟩ (.pointer none)) inb s_dash tk (.pointer none) failed := (by simpa using h_set hi1 3 (.pointer none)); have t1 : (w1.setCell ⟨inb, 3, none⟩ (.pointer none)).cell? ⟨tk, 0, none⟩ = some (ptr E.G.p) := ((Turn.set (S := [inb]) w1 inb 3 (.pointer none) (by simp)).cell (hk1.cell HX.out.2 (by simp)) (by simpa using htn)); have HY := Lib.hid (And.intro hp1 hk1); have e1 := h_cell hi2 1 rfl; have e2 := h_cell hi2 2 rfl; clear hp1 hk1 hfr hi2)
  have hmx : Tryz.prog.follows .mixedOrders = true := by kernel_rfl
  go_region_with (go_at_call 240; refine (hcl _).mono ?_; rintro e w6 ⟨⟨v, rfl⟩, hw6⟩; rw [hw6]; clear hw6)
  all_goals
    go_wp2_with fail
    go_end0
    have hT : Turn [inb] w1 ((w1.setCell ⟨inb, 3, none⟩ (.pointer none)).drew) := (Turn.set _ _ _ _ (by simp)).drew
    refine ⟨⟨_, rfl⟩, HY.out.1.own hT (fun b hb => ?_) (fun b hb => .inl (List.mem_cons_of_mem _ hb)), (HY.out.2.less (fun x hx => List.mem_cons_of_mem _ hx)).trans ⟨_, hT, fun b hb e => ?_⟩⟩
    · have e : b = inb := by simpa using hb
      rw [e]
      exact ⟨hi0, .inl (by simp)⟩
    · have e2 : b = inb := by simpa using e
      exact hit (e2 ▸ hb)
end
end Go.Proofs.YtfkoehfkiommpaaGreatDoor

namespace Go.Proofs.YtfkoehfkiommpaaGreatDoor
open Go.RowKit

section
variable {P : Program} {f : FuncId} {ro : Option Nat} {Q : Exit → Act → World → Prop} {a : Act} {w : World}

/-- What a code comes to in frames of one function (ro: in a round of which loop). -/
def wpF (P : Program) (f : FuncId) (ro : Option Nat) (c : Code) (Q : Exit → Act → World → Prop) (a : Act) (w : World) : Prop :=
  ∀ (b : Frame) (k : List Item) (cs : List Frame), b.roundOf = ro → b.fn = f → b.kind = .normal →
    ∃ e a' w', Q e a' w' ∧ ArrivesIn (Machine.fenced P Fence.wide) P (lone (b.atR a (.code c :: k)) cs w) b k cs e a' w'

def wideR : Option Nat → Fence
  | none => Fence.wide
  | some l => Fence.wide.inRound l
theorem wideR_round (ro : Option Nat) : (wideR ro).round = ro := by cases ro <;> rfl
theorem wideR_fn (ro : Option Nat) (g : FuncId) : (wideR ro).fn g := by cases ro <;> trivial
theorem wideR_room (ro : Option Nat) (m : Nat) : (wideR ro).room m := by cases ro <;> exact room_wide m
theorem wideR_fenced (ro : Option Nat) : Machine.fenced P (wideR ro) = Machine.fenced P Fence.wide := by cases ro <;> rfl

theorem wpF_of_wpIn {n : Nat} {c : Code} (h : c.wpIn (wideR ro) n P Q a w) : wpF P f ro c Q a w := by
  intro b k cs hro _ _
  obtain ⟨e, a', w', hq, ha⟩ := h b k cs (by rw [hro, wideR_round]) (wideR_fn _ _) (wideR_room _ _)
  rw [wideR_fenced] at ha
  exact ⟨e, a', w', hq, ha⟩
theorem wpF_mono {c : Code} {Q' : Exit → Act → World → Prop} (h : wpF P f ro c Q a w) (hq : ∀ e a w, Q e a w → Q' e a w) : wpF P f ro c Q' a w :=
  fun b k cs h1 h2 h3 => let ⟨e, a', w', q, r⟩ := h b k cs h1 h2 h3; ⟨e, a', w', hq _ _ _ q, r⟩
theorem wpF_seq {x y : Code} (h : wpF P f ro x (Exit.then (wpF P f ro y Q) Q) a w) : wpF P f ro (Code.seq x y) Q a w := by
  intro b k cs h1 h2 h3
  have h0 : (lone (b.atR a (.code (.seq x y) :: k)) cs w).fenced P Fence.wide := fenced_wide P _
  obtain ⟨e, a₁, w₁, hq, harr⟩ := h b (.code y :: k) cs h1 h2 h3
  cases e with
  | normal =>
    obtain ⟨e₂, a₂, w₂, hq₂, harr₂⟩ := hq b k cs h1 h2 h3
    exact ⟨e₂, a₂, w₂, hq₂, .of_steps (.head h0 stepR_seq harr) harr₂⟩
  | exit id => exact ⟨_, a₁, w₁, hq, .of_steps (.one h0 stepR_seq) (.pass (x := .code y) rfl (fun _ _ => .inl (by simp)) harr)⟩
  | goto l => exact ⟨_, a₁, w₁, hq, .of_steps (.one h0 stepR_seq) (.pass (x := .code y) rfl (fun _ _ => .inl (by simp)) harr)⟩
  | ret => exact ⟨_, a₁, w₁, hq, .of_steps (.one h0 stepR_seq) (.pass (x := .code y) rfl (fun _ _ => .inl (by simp)) harr)⟩
  | panic ch => exact ⟨_, a₁, w₁, hq, .of_steps (.one h0 stepR_seq) (.pass (x := .code y) rfl (fun _ _ => .inl (by simp)) harr)⟩
  | outgrown => exact ⟨_, a₁, w₁, hq, .of_steps (.one h0 stepR_seq) (.pass (x := .code y) rfl (fun _ _ => .inl (by simp)) harr)⟩
theorem wpF_block {id : Nat} {c : Code} (h : wpF P f ro c (Exit.inBlock id Q) a w) : wpF P f ro (Code.block id c) Q a w := by
  intro b k cs h1 h2 h3
  have h0 : (lone (b.atR a (.code (.block id c) :: k)) cs w).fenced P Fence.wide := fenced_wide P _
  obtain ⟨e, a₁, w₁, hq, harr⟩ := h b (.inBlock id :: k) cs h1 h2 h3
  cases e with
  | normal => exact ⟨.normal, a₁, w₁, hq, .head h0 stepR_block (StepsIn.trans harr (.one (fenced_wide P _) stepR_inBlock))⟩
  | exit id' =>
    by_cases hid : id' = id
    · simp only [Exit.inBlock, hid, if_true] at hq
      exact ⟨.normal, a₁, w₁, hq, .head h0 stepR_block (harr.1 k (by simp [exitTo, hid]))⟩
    · simp only [Exit.inBlock, hid, if_false] at hq
      have this : (id == id') = false := by simp; exact fun h => hid h.symm
      have hx : exitTo id' (.inBlock id :: k) = exitTo id' k := by simp [exitTo, this]
      exact ⟨.exit id', a₁, w₁, hq, fun k' hk => .head h0 stepR_block (harr.1 k' (by rw [hx]; exact hk)),
        fun hr' hk => let ⟨k₁, h1, h2⟩ := harr.2 hr' (by rw [hx]; exact hk); ⟨k₁, h1, .head h0 stepR_block h2⟩⟩
  | goto l =>
    have hx : gotoIn l (.inBlock id :: k) = gotoIn l k := by simp [gotoIn]
    exact ⟨_, a₁, w₁, hq, fun k' hk => .head h0 stepR_block (harr.1 k' (by rw [hx]; exact hk)),
      fun hr' hk => let ⟨k₁, h1, h2⟩ := harr.2 hr' (by rw [hx]; exact hk); ⟨k₁, h1, .head h0 stepR_block h2⟩⟩
  | ret => exact ⟨_, a₁, w₁, hq, .of_steps (.one h0 stepR_block) harr⟩
  | panic ch => exact ⟨_, a₁, w₁, hq, .of_steps (.one h0 stepR_block) harr⟩
  | outgrown => exact ⟨_, a₁, w₁, hq, .of_steps (.one h0 stepR_block) harr⟩

/-- A function's contract from its body, walked so. -/
theorem calls_of_wpF {fn : Func} {c : Code} {args : Array Value} {R : Ending → World → Prop} (hf : P.funcs[f]? = some fn) (hb : fn.body = some c)
    (h : wpF P f none c (bodyPostM Fence.wide 0 P fn R) { tmps := args ++ Array.replicate (fn.ntmps - args.size) undef, defers := [] } w) : Calls P f args w R := by
  refine callsIn_wide (n := 0).1 ⟨trivial, fun cs hr => ?_⟩
  let b : Frame := { (default : Frame) with fn := f, kind := .normal, roundOf := none }
  have henter : Frame.enter P f args .normal =
      b.atR { tmps := args ++ Array.replicate (fn.ntmps - args.size) undef, defers := [] } [.code c] := by
    simp [Frame.enter, Frame.atR, hf, hb, b]
  obtain ⟨e, a', w', hq, harr⟩ := h b [] cs rfl rfl rfl
  rw [← henter] at harr
  cases e with
  | normal =>
    obtain ⟨e', w'', fr', hR, hs, hfn, hl⟩ := leaves_stepsInM (F := Fence.wide) (n := 0) a'.defers .returning w' { b.atR a' [] with mode := .returning } cs rfl rfl rfl hf rfl trivial hr hq
    exact ⟨e', w'', fr', hR, ComesIn.of_steps (StepsIn.trans harr (.one (fenced_wide P _) (stepR_end rfl))) hs, hfn, hl⟩
  | ret =>
    obtain ⟨todo, hs₀⟩ := harr.1 rfl
    obtain ⟨e', w'', fr', hR, hs, hfn, hl⟩ := leaves_stepsInM (F := Fence.wide) (n := 0) a'.defers .returning w' { b.atR a' todo with mode := .returning } cs rfl rfl rfl hf rfl trivial hr hq
    exact ⟨e', w'', fr', hR, ComesIn.of_steps hs₀ hs, hfn, hl⟩
  | panic chain =>
    obtain ⟨todo, hs₀⟩ := harr
    obtain ⟨e', w'', fr', hR, hs, hfn, hl⟩ := leaves_stepsInM (F := Fence.wide) (n := 0) a'.defers (.panicking chain) w' { b.atR a' todo with mode := .panicking chain } cs rfl rfl rfl hf rfl trivial hr hq
    exact ⟨e', w'', fr', hR, ComesIn.of_steps hs₀ hs, hfn, hl⟩
  | exit id => exact hq.elim
  | goto l => exact hq.elim
  | outgrown => exact ⟨.outgrown, w', b, hq, harr.resolve_left (by simp [b]), rfl, trivial⟩

/-- What a round is to come to, by the way in which its body is left. -/
def rndPost (l : Nat) (r : Loop) (Nxt : World → Prop) (Stp : Code → World → Prop) (Pan : List PanicEntry → World → Prop) : Exit → Act → World → Prop
  | .normal, _, W => W.heap[l]? = some (.loop { r with state := .busy }) ∧ Nxt W
  | .ret, _, W => W.heap[l]? = some (.loop { r with state := .busy }) ∧ Stp .ret W
  | .exit id, _, W => W.heap[l]? = some (.loop { r with state := .busy }) ∧ Stp (.exit id) W
  | .goto t, _, W => W.heap[l]? = some (.loop { r with state := .busy }) ∧ Stp (.goto t) W
  | .panic ch, a, W => a.defers = [] ∧ Pan ch W
  | .outgrown, _, _ => False

/-- Only a loop's record is turned. -/
def RecTurn (l : Nat) (W W' : World) : Prop := ∃ r r' : Loop, W.heap[l]? = some (.loop r) ∧ W' = W.putObj l (.loop r')

/-- A round, out of its body's walk in frames of the loop's function. -/
theorem round_of_wpF {l : Nat} {fn : Func} {tmps : Array Value} {assign body : Code} {r : Loop} {Mid : Act → World → Prop} {Nxt : World → Prop} {Stp : Code → World → Prop} {Pan : List PanicEntry → World → Prop}
    (hf : P.funcs[f]? = some fn) (hpe : r.pending = none) (hst : r.state = .ready)
    (aMid : ∀ a' W W', RecTurn l W W' → Mid a' W → Mid a' W') (aNxt : ∀ W W', RecTurn l W W' → Nxt W → Nxt W') (aStp : ∀ c W W', RecTurn l W W' → Stp c W → Stp c W')
    (hassign : wpF P f (some l) assign (Exit.then (fun a' W => W.heap[l]? = some (.loop r) ∧ Mid a' W) (fun _ _ _ => False)) { tmps := tmps, defers := [] } w)
    (hbody : ∀ a' W, W.heap[l]? = some (.loop { r with state := .busy }) → Mid a' W → wpF P f (some l) body (rndPost l r Nxt Stp Pan) a' W) :
    RoundIn Fence.wide 0 P l f tmps assign body w fun e W =>
      (e = .returned (.bool true) ∧ W.heap[l]? = some (.loop r) ∧ Nxt W) ∨ (∃ c, e = .returned (.bool false) ∧ W.heap[l]? = some (.loop { r with state := .done, pending := some c }) ∧ Stp c W) ∨ (∃ ch, e = .panicked ch ∧ Pan ch W) := by
  refine ⟨trivial, fun c cs _ => ?_⟩
  let b : Frame := { (default : Frame) with fn := f, kind := .normal, roundOf := some l }
  have hb0 : Frame.round l f tmps assign body .normal = b.atR { tmps := tmps, defers := [] } [.code assign, .beginRound, .code body] := by
    simp [Frame.round, Frame.atR, b]
  obtain ⟨e, a₁, w₁, hq, harr⟩ := hassign b [.beginRound, .code body] (c :: cs) rfl rfl rfl
  rw [← hb0] at harr
  have fin : ∀ (j : Option Code) (W : World), W.heap[l]? = some (.loop { r with state := .busy }) → ∃ W', (Instr.endRound l j).run P W = .ok (.bool j.isNone) W' ∧ RecTurn l W W' ∧ W'.heap[l]? = some (.loop { r with state := if j.isNone then .ready else .done, pending := j }) := fun j W hW =>
    ⟨_, run_endRound (P := P) j hW, ⟨_, _, hW, rfl⟩, World.putObj_heap_same (Array.getElem?_eq_some_iff.1 hW).1⟩
  cases e with
  | normal =>
    obtain ⟨hl, hmid⟩ := hq
    have hbr := run_beginRound (P := P) hl hst
    have hl2 : (w₁.putObj l (.loop { r with state := .busy })).heap[l]? = some (.loop { r with state := .busy }) := World.putObj_heap_same (Array.getElem?_eq_some_iff.1 hl).1
    have hm2 := aMid a₁ w₁ _ ⟨_, { r with state := .busy }, hl, rfl⟩ hmid
    obtain ⟨e₂, a₂, w₃, hq₂, harr₂⟩ := hbody a₁ _ hl2 hm2 b [] (c :: cs) rfl rfl rfl
    have s1 : StepsIn (Machine.fenced P Fence.wide) P (lone (b.atR a₁ [.beginRound, .code body]) (c :: cs) w₁) (lone (b.atR a₁ [.code body]) (c :: cs) (w₁.putObj l (.loop { r with state := .busy }))) :=
      .one (fenced_wide P _) (stepR_beginRound rfl hbr)
    cases e₂ with
    | normal =>
      obtain ⟨W', hend, ht, hl'⟩ := fin none w₃ hq₂.1
      refine ⟨.returned (.bool true), W', .inl ⟨rfl, ?_, aNxt _ _ ht hq₂.2⟩, (StepsIn.trans harr s1).trans (StepsIn.trans harr₂ (.one (fenced_wide P _) (stepR_round_end rfl rfl hend)))⟩
      rw [hl']
      simp only [Option.isNone_none, if_true]
      rw [← hpe, ← hst]
    | ret =>
      obtain ⟨W', hend, ht, hl'⟩ := fin (some .ret) w₃ hq₂.1
      obtain ⟨k₁, hs⟩ := harr₂.2 rfl
      exact ⟨.returned (.bool false), W', .inr (.inl ⟨.ret, rfl, hl', aStp _ _ _ ht hq₂.2⟩), (StepsIn.trans harr s1).trans (StepsIn.trans hs (.one (fenced_wide P _) (stepR_round_ret rfl rfl hend)))⟩
    | exit id =>
      obtain ⟨W', hend, ht, hl'⟩ := fin (some (.exit id)) w₃ hq₂.1
      obtain ⟨k₁, hk, hs⟩ := harr₂.2 rfl rfl
      exact ⟨.returned (.bool false), W', .inr (.inl ⟨.exit id, rfl, hl', aStp _ _ _ ht hq₂.2⟩), (StepsIn.trans harr s1).trans (StepsIn.trans hs (.one (fenced_wide P _) (stepR_round_exit rfl rfl hk hend)))⟩
    | goto t =>
      obtain ⟨W', hend, ht, hl'⟩ := fin (some (.goto t)) w₃ hq₂.1
      obtain ⟨k₁, hk, hs⟩ := harr₂.2 rfl rfl
      exact ⟨.returned (.bool false), W', .inr (.inl ⟨.goto t, rfl, hl', aStp _ _ _ ht hq₂.2⟩), (StepsIn.trans harr s1).trans (StepsIn.trans hs (.one (fenced_wide P _) (stepR_round_goto rfl rfl hk hend)))⟩
    | panic ch =>
      obtain ⟨todo, hs⟩ := harr₂
      have hlv : ({ b.atR a₂ todo with mode := .panicking ch } : Frame).leaving P w₃ (.panicked ch) := ⟨rfl, hq₂.1, fn, hf⟩
      exact ⟨.panicked ch, w₃, .inr (.inr ⟨ch, rfl, hq₂.2⟩), (StepsIn.trans harr s1).trans (StepsIn.trans hs (.one (fenced_wide P _) (step_leave_panicked hlv)))⟩
    | outgrown => exact hq₂.elim
  | exit id => exact hq.elim
  | goto t => exact hq.elim
  | ret => exact hq.elim
  | panic chain => exact hq.elim
  | outgrown => exact hq.elim
end
end Go.Proofs.YtfkoehfkiommpaaGreatDoor
