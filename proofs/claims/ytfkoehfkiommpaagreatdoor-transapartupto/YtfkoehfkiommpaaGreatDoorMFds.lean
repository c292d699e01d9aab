/- A process's first call, at which main waits. -/
import Derived.Test.YtfkoehfkiommpaaGreatDoorMHold
import Derived.Test.YtfkoehfkiommpaaGreatDoorPWrite
namespace Go.Proofs.YtfkoehfkiommpaaGreatDoor
open Go.RowKit Go.Shelf Go.Maps

/-- 'nx' does a call: what it has captured. -/
structure Wt (G : Gh) (w : World) (c : KCall) (nx : Value) : Prop where
  rd : c.isRead = true → ∃ a b x, nx = .func (.func 285) #[] #[ptr a, ptr b, ptr x] ∧ w.cell? ⟨a, 0, none⟩ = some (ptr G.p) ∧ w.cell? ⟨b, 0, none⟩ = some (.int .i64 0) ∧ w.cell? ⟨x, 0, none⟩ = some (.int .i64 c.most) ∧ G.base ≤ a ∧ G.base ≤ b ∧ G.base ≤ x
  wr : c.isRead = false → ∃ a b x kv, nx = .func (.func 266) #[] #[ptr a, ptr b, ptr x] ∧ w.cell? ⟨a, 0, none⟩ = some (ptr G.p) ∧ w.cell? ⟨b, 0, none⟩ = some (.int .i64 (if c.isErr then 2 else 1)) ∧ w.cell? ⟨x, 0, none⟩ = some kv ∧ w.ownsRow G.base 5 1 kv c.b.length (u8s c.b) ∧ G.base ≤ a ∧ G.base ≤ b ∧ G.base ≤ x
theorem Wt.keep {G : Gh} {w w' : World} {c : KCall} {nx : Value} {S : List Nat} (h : Wt G w c nx) (hT : Turn S w w') (hS : ∀ b ∈ S, b < G.base) : Wt G w' c nx where
  rd := fun e => by
    obtain ⟨a, b, x, h1, h2, h3, h4, h5, h6, h7⟩ := h.rd e
    exact ⟨a, b, x, h1, hT.cell h2 (fun e => by have := hS _ e; simp at this; omega), hT.cell h3 (fun e => by have := hS _ e; simp at this; omega), hT.cell h4 (fun e => by have := hS _ e; simp at this; omega), h5, h6, h7⟩
  wr := fun e => by
    obtain ⟨a, b, x, kv, h1, h2, h3, h4, h8, h5, h6, h7⟩ := h.wr e
    exact ⟨a, b, x, kv, h1, hT.cell h2 (fun e => by have := hS _ e; simp at this; omega), hT.cell h3 (fun e => by have := hS _ e; simp at this; omega), hT.cell h4 (fun e => by have := hS _ e; simp at this; omega), own_turn h8 hT (fun g hg e => by have := hS _ e; have := own_ge h8 hg; omega), h5, h6, h7⟩

section
variable {G : Gh} {w : World} {held peak : Int}
set_option maxRecDepth 100000 in
set_option maxHeartbeats 2000000 in
theorem pread_A (hp : PrAt w G.p G.kn G.tb G.args G.env G.cwd G.l1 G.l2 G.l3 held peak G.box G.kin G.isChild (ptr G.m)) (h : McAt w G.m G.p G.main (.slice none 0 0) 0 .nilFunc false 0 false 0) (hb : G.base ≤ w.heap.size) (most : Nat) :
    Calls Tryz.prog 262 #[ptr G.p, .int .i64 0, .int .i64 most] w fun e w' => e = .panicked waitsP ∧ ∃ nx, (∃ f y z, nx = .func f y z) ∧ Wt G w' (.read most) nx ∧ McAt w' G.m G.p G.main (.slice none 0 0) 0 nx false 0 false 0 ∧ Turn [G.m] w w' := by
  have hmf : ∀ (fn : Fn) (first cap : Array Value) (w : World), (Instr.makeFunc fn first cap).run Tryz.prog w = .ok (.func fn first cap) w := fun _ _ _ _ => rfl
  have hX := box3_turn w G 0 most
  obtain ⟨x1, x2, x3⟩ := box3_cells w G 0 most
  have hr := pretold_none (hX.ob hp (by simp)) (hX.ob h (by simp)) (by decide)
  have ha := fun q => pask_waits (w := (box3 w G 0 most).drewN q) (f := .func 285) (y := #[]) (z := #[ptr w.heap.size, ptr (w.heap.size + 1), ptr (w.heap.size + 1 + 1)]) (hX.ob hp (by simp)) (hX.ob h (by simp)) (by decide)
  have q1 := an_nil
  have hml := h_lt h
  have HM : Hid (∀ q, McAt ((box3 w G 0 most).drewN q) G.m G.p G.main (.slice none 0 0) 0 .nilFunc false 0 false 0) := fun q => hX.ob h (by simp)
  have HX := Lib.hid hX
  have H1 := Lib.hid x1
  have H2 := Lib.hid x2
  have H3 := Lib.hid x3
  have S4 : Hid (∀ q q2 w', w' = (((box3 w G 0 most).drewN q).drewN q2).setCell ⟨G.m, 4, none⟩ (.func (.func 285) #[] #[ptr w.heap.size, ptr (w.heap.size + 1), ptr (w.heap.size + 1 + 1)]) → Turn [G.m] (box3 w G 0 most) w' ∧ McAt w' G.m G.p G.main (.slice none 0 0) 0 (.func (.func 285) #[] #[ptr w.heap.size, ptr (w.heap.size + 1), ptr (w.heap.size + 1 + 1)]) false 0 false 0) := by
    intro q q2 w' hw'
    refine ⟨by rw [hw']; exact (((Turn.refl [G.m] _).drewN q).drewN q2).trans (Turn.set _ G.m 4 _ (by simp)), ?_⟩
    have := h_set (w := ((box3 w G 0 most).drewN q).drewN q2) (HM.out q) 4 (.func (.func 285) #[] #[ptr w.heap.size, ptr (w.heap.size + 1), ptr (w.heap.size + 1 + 1)])
    rw [hw']; simpa using this
  clear h hp hX x2 x3 HM
  go_enter Tryz.func262, Tryz.ntmps262
  go_wp2_with (first
    | (go_at_call 264; refine hr.mono ?_; rintro e w' ⟨rfl, q, hw'⟩; rw [hw']; clear hw')
    | (go_at_call 265; refine (ha q).mono ?_; rintro e w' ⟨rfl, q2, hw'⟩; obtain ⟨hT, hM⟩ := S4.out q q2 w' hw'; clear hw'))
  refine ⟨rfl, rfl, _, ⟨_, _, _, rfl⟩, ⟨fun _ => ⟨w.heap.size, w.heap.size + 1, w.heap.size + 1 + 1, rfl, hT.cell H1.out (by simp; omega), hT.cell H2.out (by simp; omega), hT.cell H3.out (by simp; omega), by omega, by omega, by omega⟩, fun e => by cases e⟩, hM, (HX.out.mono (by simp)).trans hT⟩

set_option maxRecDepth 100000 in
set_option maxHeartbeats 4000000 in
theorem pwrite_A1 (hp : PrAt w G.p G.kn G.tb G.args G.env G.cwd G.l1 G.l2 G.l3 held peak G.box G.kin G.isChild (ptr G.m)) (h : McAt w G.m G.p G.main (.slice none 0 0) 0 .nilFunc false 0 false 0) (hbs : G.base ≤ w.heap.size) (b : Value) (bs : List UInt8) (hb : ByAt w b bs) (hL : bs.length ≤ 1048576) :
    Calls Tryz.prog 243 #[ptr G.p, .int .i64 1, b] w fun e w' => e = .panicked waitsP ∧ ∃ nx, (∃ f y z, nx = .func f y z) ∧ Wt G w' (.write false bs) nx ∧ McAt w' G.m G.p G.main (.slice none 0 0) 0 nx false 0 false 0 ∧ Turn [G.m] w w' := by
  have hmf : ∀ (fn : Fn) (first cap : Array Value) (w : World), (Instr.makeFunc fn first cap).run Tryz.prog w = .ok (.func fn first cap) w := fun _ _ _ _ => rfl
  have hT0 : Turn [] w ((w.alloc (.cells #[ptr G.p] 115)).alloc (.cells #[.int .i64 1] 3)) := (Turn.alloc w _).trans (Turn.alloc _ _)
  have hr := pretold_none (hT0.ob hp (by simp)) (hT0.ob h (by simp)) (by decide)
  have q1 := an_nil
  have HH := Lib.hid (And.intro hp h)
  have hml := h_lt h
  obtain ⟨xb, cb, rfl⟩ := hb.shape
  have HB := Lib.hid hb
  clear h hp hb
  go_enter Tryz.func243, Tryz.ntmps243
  go_wp2_with (go_at_call 264; refine hr.mono ?_; rintro e w' ⟨rfl, q, hw'⟩; rw [hw']; clear hw')
  have hTX : Turn [] w (((w.alloc (.cells #[ptr G.p] 115)).alloc (.cells #[.int .i64 1] 3)).drewN q) := hT0.drewN q
  have x1 : (((w.alloc (.cells #[ptr G.p] 115)).alloc (.cells #[.int .i64 1] 3)).drewN q).cell? ⟨w.heap.size, 0, none⟩ = some (ptr G.p) := al_cell _ (World.cell?_alloc_new w #[ptr G.p] 115 0)
  have x2 : (((w.alloc (.cells #[ptr G.p] 115)).alloc (.cells #[.int .i64 1] 3)).drewN q).cell? ⟨w.heap.size + 1, 0, none⟩ = some (.int .i64 1) := by
    have := World.cell?_alloc_new (w.alloc (.cells #[ptr G.p] 115)) #[.int .i64 1] 3 0
    have e : (w.alloc (.cells #[ptr G.p] 115)).heap.size = w.heap.size + 1 := by simp
    rw [e] at this; exact this
  have hsz : (((w.alloc (.cells #[ptr G.p] 115)).alloc (.cells #[.int .i64 1] 3)).drewN q).heap.size = w.heap.size + 2 := by simp
  generalize ((w.alloc (.cells #[ptr G.p] 115)).alloc (.cells #[.int .i64 1] 3)).drewN q = X at hTX x1 x2 hsz ⊢
  refine (bclone_by _ bs X hL (HB.out.turn hTX (by simp))).mono ?_
  rintro e w2 ⟨kv, rfl, hkv, hb2⟩
  have hT2 : Turn [] w w2 := hTX.trans (Turn.below hb2)
  have s2 := hb2.size
  have y1 := (Turn.below (S := []) hb2).cell x1 (by simp)
  have y2 := (Turn.below (S := []) hb2).cell x2 (by simp)
  obtain ⟨xk, ck, rfl⟩ := own_shape hkv
  have hT3 : Turn [] w2 (w2.alloc (.cells #[.slice xk bs.length ck] 23)) := Turn.alloc w2 _
  have y3b : (w2.alloc (.cells #[.slice xk bs.length ck] 23)).cell? ⟨w2.heap.size, 0, none⟩ = some (.slice xk bs.length ck) := World.cell?_alloc_new w2 #[.slice xk bs.length ck] 23 0
  have y1b := hT3.cell y1 (by simp)
  have y2b := hT3.cell y2 (by simp)
  have hkv3 := own_turn hkv hT3 (by simp)
  have hTw3 := hT2.trans hT3
  have hs3 : w2.heap.size < (w2.alloc (.cells #[.slice xk bs.length ck] 23)).heap.size := by simp
  have hp3 := hTw3.ob HH.out.1 (by simp)
  have hm3 := hTw3.ob HH.out.2 (by simp)
  have ha := pask_waits (f := .func 266) (y := #[]) (z := #[ptr w.heap.size, ptr (w.heap.size + 1), ptr w2.heap.size]) hp3 hm3 (by decide)
  generalize hW3 : w2.alloc (.cells #[.slice xk bs.length ck] 23) = W3 at y3b y1b y2b hkv3 hTw3 hs3 hm3 ha
  have S4 : Hid (∀ q2 w', w' = (W3.drewN q2).setCell ⟨G.m, 4, none⟩ (.func (.func 266) #[] #[ptr w.heap.size, ptr (w.heap.size + 1), ptr w2.heap.size]) → Turn [G.m] W3 w' ∧ McAt w' G.m G.p G.main (.slice none 0 0) 0 (.func (.func 266) #[] #[ptr w.heap.size, ptr (w.heap.size + 1), ptr w2.heap.size]) false 0 false 0) := by
    intro q2 w' hw'
    refine ⟨by rw [hw']; exact ((Turn.refl [G.m] _).drewN q2).trans (Turn.set _ G.m 4 _ (by simp)), ?_⟩
    have := h_set (w := W3.drewN q2) hm3 4 (.func (.func 266) #[] #[ptr w.heap.size, ptr (w.heap.size + 1), ptr w2.heap.size])
    rw [hw']; simpa using this
  have HK := Lib.hid (And.intro hkv3 (And.intro hTw3 (And.intro y2b y3b)))
  have H1 := Lib.hid y1b
  clear hr hT0 hTX x1 x2 hkv hb2 hT3 HB y1 y2 hm3 hp3 hkv3 hTw3 y2b y3b
  go_wp2_with (go_at_call 265; refine ha.mono ?_; rintro e w' ⟨rfl, q2, hw'⟩; obtain ⟨hT, hM⟩ := S4.out q2 w' hw'; clear hw')
  obtain ⟨hkv3, hTw3, y2b, y3b⟩ := HK.out
  have hsz2 := hT2.size
  refine ⟨rfl, rfl, _, ⟨_, _, _, rfl⟩, ⟨fun e => (by cases e), fun _ => ⟨w.heap.size, w.heap.size + 1, w2.heap.size, _, rfl, hT.cell H1.out (by simp; omega), hT.cell y2b (by simp; omega), hT.cell y3b (by simp; omega), own_less0 (own_turn hkv3 hT (fun g hg e => by have := own_ge hkv3 hg; simp at e; omega)) (by omega), by omega, by omega, by omega⟩⟩, hM, (hTw3.mono (by simp)).trans hT⟩

set_option maxRecDepth 100000 in
set_option maxHeartbeats 4000000 in
theorem pwrite_A2 (hp : PrAt w G.p G.kn G.tb G.args G.env G.cwd G.l1 G.l2 G.l3 held peak G.box G.kin G.isChild (ptr G.m)) (h : McAt w G.m G.p G.main (.slice none 0 0) 0 .nilFunc false 0 false 0) (hbs : G.base ≤ w.heap.size) (b : Value) (bs : List UInt8) (hb : ByAt w b bs) (hL : bs.length ≤ 1048576) :
    Calls Tryz.prog 243 #[ptr G.p, .int .i64 2, b] w fun e w' => e = .panicked waitsP ∧ ∃ nx, (∃ f y z, nx = .func f y z) ∧ Wt G w' (.write true bs) nx ∧ McAt w' G.m G.p G.main (.slice none 0 0) 0 nx false 0 false 0 ∧ Turn [G.m] w w' := by
  have hmf : ∀ (fn : Fn) (first cap : Array Value) (w : World), (Instr.makeFunc fn first cap).run Tryz.prog w = .ok (.func fn first cap) w := fun _ _ _ _ => rfl
  have hT0 : Turn [] w ((w.alloc (.cells #[ptr G.p] 115)).alloc (.cells #[.int .i64 2] 3)) := (Turn.alloc w _).trans (Turn.alloc _ _)
  have hr := pretold_none (hT0.ob hp (by simp)) (hT0.ob h (by simp)) (by decide)
  have q1 := an_nil
  have HH := Lib.hid (And.intro hp h)
  have hml := h_lt h
  obtain ⟨xb, cb, rfl⟩ := hb.shape
  have HB := Lib.hid hb
  clear h hp hb
  go_enter Tryz.func243, Tryz.ntmps243
  go_wp2_with (go_at_call 264; refine hr.mono ?_; rintro e w' ⟨rfl, q, hw'⟩; rw [hw']; clear hw')
  have hTX : Turn [] w (((w.alloc (.cells #[ptr G.p] 115)).alloc (.cells #[.int .i64 2] 3)).drewN q) := hT0.drewN q
  have x1 : (((w.alloc (.cells #[ptr G.p] 115)).alloc (.cells #[.int .i64 2] 3)).drewN q).cell? ⟨w.heap.size, 0, none⟩ = some (ptr G.p) := al_cell _ (World.cell?_alloc_new w #[ptr G.p] 115 0)
  have x2 : (((w.alloc (.cells #[ptr G.p] 115)).alloc (.cells #[.int .i64 2] 3)).drewN q).cell? ⟨w.heap.size + 1, 0, none⟩ = some (.int .i64 2) := by
    have := World.cell?_alloc_new (w.alloc (.cells #[ptr G.p] 115)) #[.int .i64 2] 3 0
    have e : (w.alloc (.cells #[ptr G.p] 115)).heap.size = w.heap.size + 1 := by simp
    rw [e] at this; exact this
  have hsz : (((w.alloc (.cells #[ptr G.p] 115)).alloc (.cells #[.int .i64 2] 3)).drewN q).heap.size = w.heap.size + 2 := by simp
  generalize ((w.alloc (.cells #[ptr G.p] 115)).alloc (.cells #[.int .i64 2] 3)).drewN q = X at hTX x1 x2 hsz ⊢
  refine (bclone_by _ bs X hL (HB.out.turn hTX (by simp))).mono ?_
  rintro e w2 ⟨kv, rfl, hkv, hb2⟩
  have hT2 : Turn [] w w2 := hTX.trans (Turn.below hb2)
  have s2 := hb2.size
  have y1 := (Turn.below (S := []) hb2).cell x1 (by simp)
  have y2 := (Turn.below (S := []) hb2).cell x2 (by simp)
  obtain ⟨xk, ck, rfl⟩ := own_shape hkv
  have hT3 : Turn [] w2 (w2.alloc (.cells #[.slice xk bs.length ck] 23)) := Turn.alloc w2 _
  have y3b : (w2.alloc (.cells #[.slice xk bs.length ck] 23)).cell? ⟨w2.heap.size, 0, none⟩ = some (.slice xk bs.length ck) := World.cell?_alloc_new w2 #[.slice xk bs.length ck] 23 0
  have y1b := hT3.cell y1 (by simp)
  have y2b := hT3.cell y2 (by simp)
  have hkv3 := own_turn hkv hT3 (by simp)
  have hTw3 := hT2.trans hT3
  have hs3 : w2.heap.size < (w2.alloc (.cells #[.slice xk bs.length ck] 23)).heap.size := by simp
  have hp3 := hTw3.ob HH.out.1 (by simp)
  have hm3 := hTw3.ob HH.out.2 (by simp)
  have ha := pask_waits (f := .func 266) (y := #[]) (z := #[ptr w.heap.size, ptr (w.heap.size + 1), ptr w2.heap.size]) hp3 hm3 (by decide)
  generalize hW3 : w2.alloc (.cells #[.slice xk bs.length ck] 23) = W3 at y3b y1b y2b hkv3 hTw3 hs3 hm3 ha
  have S4 : Hid (∀ q2 w', w' = (W3.drewN q2).setCell ⟨G.m, 4, none⟩ (.func (.func 266) #[] #[ptr w.heap.size, ptr (w.heap.size + 1), ptr w2.heap.size]) → Turn [G.m] W3 w' ∧ McAt w' G.m G.p G.main (.slice none 0 0) 0 (.func (.func 266) #[] #[ptr w.heap.size, ptr (w.heap.size + 1), ptr w2.heap.size]) false 0 false 0) := by
    intro q2 w' hw'
    refine ⟨by rw [hw']; exact ((Turn.refl [G.m] _).drewN q2).trans (Turn.set _ G.m 4 _ (by simp)), ?_⟩
    have := h_set (w := W3.drewN q2) hm3 4 (.func (.func 266) #[] #[ptr w.heap.size, ptr (w.heap.size + 1), ptr w2.heap.size])
    rw [hw']; simpa using this
  have HK := Lib.hid (And.intro hkv3 (And.intro hTw3 (And.intro y2b y3b)))
  have H1 := Lib.hid y1b
  clear hr hT0 hTX x1 x2 hkv hb2 hT3 HB y1 y2 hm3 hp3 hkv3 hTw3 y2b y3b
  go_wp2_with (go_at_call 265; refine ha.mono ?_; rintro e w' ⟨rfl, q2, hw'⟩; obtain ⟨hT, hM⟩ := S4.out q2 w' hw'; clear hw')
  obtain ⟨hkv3, hTw3, y2b, y3b⟩ := HK.out
  have hsz2 := hT2.size
  refine ⟨rfl, rfl, _, ⟨_, _, _, rfl⟩, ⟨fun e => (by cases e), fun _ => ⟨w.heap.size, w.heap.size + 1, w2.heap.size, _, rfl, hT.cell H1.out (by simp; omega), hT.cell y2b (by simp; omega), hT.cell y3b (by simp; omega), own_less0 (own_turn hkv3 hT (fun g hg e => by have := own_ge hkv3 hg; simp at e; omega)) (by omega), by omega, by omega, by omega⟩⟩, hM, (hTw3.mono (by simp)).trans hT⟩
end
end Go.Proofs.YtfkoehfkiommpaaGreatDoor

namespace Go.Proofs.YtfkoehfkiommpaaGreatDoor
open Go.RowKit Go.Shelf Go.Maps

theorem tb_cell' {w : World} {t k : Nat} {hs : Array Value} (h : TbAt w t k hs) (i j : Nat) {v : Value} (hj : j = 1 + i) (hi : hs[i]? = some v) : w.cell? ⟨t, j, none⟩ = some v := by rw [hj]; exact tb_cell h i hi
/-- What can be in a table. -/
def IsTh (v : Value) : Prop := v = .nilIface ∨ ∃ T a, v = .iface T a
def nilB : Value → Bool | .nilIface => true | _ => false
def fdsTo (hs : Array Value) (n : Nat) : List Nat := (List.range n).filter fun i => !nilB (hs[i]?.getD .nilIface)
theorem fdsTo_succ (hs : Array Value) (n : Nat) : fdsTo hs (n + 1) = fdsTo hs n ++ if nilB (hs[n]?.getD .nilIface) then [] else [n] := by
  unfold fdsTo
  rw [List.range_succ, List.filter_append]
  congr 1
  by_cases h : nilB (hs[n]?.getD .nilIface) = true
  · rw [if_pos h]; simp [h]
  · rw [if_neg h]; simp [h]
theorem fdsTo_le (hs : Array Value) (n : Nat) : (fdsTo hs n).length ≤ n := by
  have := List.length_filter_le (fun i => !nilB (hs[i]?.getD .nilIface)) (List.range n)
  simpa [fdsTo] using this
def ints (l : List Nat) : List Value := l.map fun (n : Nat) => Value.int .i64 (n : Int)
theorem ix16_0 (x0 x1 x2 x3 x4 x5 x6 x7 x8 x9 x10 x11 x12 x13 x14 x15 : Value) (w : World) : (Instr.index 182 (.agg #[x0, x1, x2, x3, x4, x5, x6, x7, x8, x9, x10, x11, x12, x13, x14, x15]) (.int .i64 0)).run Tryz.prog w = .ok x0 w := by kernel_rfl
theorem ix16_1 (x0 x1 x2 x3 x4 x5 x6 x7 x8 x9 x10 x11 x12 x13 x14 x15 : Value) (w : World) : (Instr.index 182 (.agg #[x0, x1, x2, x3, x4, x5, x6, x7, x8, x9, x10, x11, x12, x13, x14, x15]) (.int .i64 1)).run Tryz.prog w = .ok x1 w := by kernel_rfl
theorem ix16_2 (x0 x1 x2 x3 x4 x5 x6 x7 x8 x9 x10 x11 x12 x13 x14 x15 : Value) (w : World) : (Instr.index 182 (.agg #[x0, x1, x2, x3, x4, x5, x6, x7, x8, x9, x10, x11, x12, x13, x14, x15]) (.int .i64 2)).run Tryz.prog w = .ok x2 w := by kernel_rfl
theorem ix16_3 (x0 x1 x2 x3 x4 x5 x6 x7 x8 x9 x10 x11 x12 x13 x14 x15 : Value) (w : World) : (Instr.index 182 (.agg #[x0, x1, x2, x3, x4, x5, x6, x7, x8, x9, x10, x11, x12, x13, x14, x15]) (.int .i64 3)).run Tryz.prog w = .ok x3 w := by kernel_rfl
theorem ix16_4 (x0 x1 x2 x3 x4 x5 x6 x7 x8 x9 x10 x11 x12 x13 x14 x15 : Value) (w : World) : (Instr.index 182 (.agg #[x0, x1, x2, x3, x4, x5, x6, x7, x8, x9, x10, x11, x12, x13, x14, x15]) (.int .i64 4)).run Tryz.prog w = .ok x4 w := by kernel_rfl
theorem ix16_5 (x0 x1 x2 x3 x4 x5 x6 x7 x8 x9 x10 x11 x12 x13 x14 x15 : Value) (w : World) : (Instr.index 182 (.agg #[x0, x1, x2, x3, x4, x5, x6, x7, x8, x9, x10, x11, x12, x13, x14, x15]) (.int .i64 5)).run Tryz.prog w = .ok x5 w := by kernel_rfl
theorem ix16_6 (x0 x1 x2 x3 x4 x5 x6 x7 x8 x9 x10 x11 x12 x13 x14 x15 : Value) (w : World) : (Instr.index 182 (.agg #[x0, x1, x2, x3, x4, x5, x6, x7, x8, x9, x10, x11, x12, x13, x14, x15]) (.int .i64 6)).run Tryz.prog w = .ok x6 w := by kernel_rfl
theorem ix16_7 (x0 x1 x2 x3 x4 x5 x6 x7 x8 x9 x10 x11 x12 x13 x14 x15 : Value) (w : World) : (Instr.index 182 (.agg #[x0, x1, x2, x3, x4, x5, x6, x7, x8, x9, x10, x11, x12, x13, x14, x15]) (.int .i64 7)).run Tryz.prog w = .ok x7 w := by kernel_rfl
theorem ix16_8 (x0 x1 x2 x3 x4 x5 x6 x7 x8 x9 x10 x11 x12 x13 x14 x15 : Value) (w : World) : (Instr.index 182 (.agg #[x0, x1, x2, x3, x4, x5, x6, x7, x8, x9, x10, x11, x12, x13, x14, x15]) (.int .i64 8)).run Tryz.prog w = .ok x8 w := by kernel_rfl
theorem ix16_9 (x0 x1 x2 x3 x4 x5 x6 x7 x8 x9 x10 x11 x12 x13 x14 x15 : Value) (w : World) : (Instr.index 182 (.agg #[x0, x1, x2, x3, x4, x5, x6, x7, x8, x9, x10, x11, x12, x13, x14, x15]) (.int .i64 9)).run Tryz.prog w = .ok x9 w := by kernel_rfl
theorem ix16_10 (x0 x1 x2 x3 x4 x5 x6 x7 x8 x9 x10 x11 x12 x13 x14 x15 : Value) (w : World) : (Instr.index 182 (.agg #[x0, x1, x2, x3, x4, x5, x6, x7, x8, x9, x10, x11, x12, x13, x14, x15]) (.int .i64 10)).run Tryz.prog w = .ok x10 w := by kernel_rfl
theorem ix16_11 (x0 x1 x2 x3 x4 x5 x6 x7 x8 x9 x10 x11 x12 x13 x14 x15 : Value) (w : World) : (Instr.index 182 (.agg #[x0, x1, x2, x3, x4, x5, x6, x7, x8, x9, x10, x11, x12, x13, x14, x15]) (.int .i64 11)).run Tryz.prog w = .ok x11 w := by kernel_rfl
theorem ix16_12 (x0 x1 x2 x3 x4 x5 x6 x7 x8 x9 x10 x11 x12 x13 x14 x15 : Value) (w : World) : (Instr.index 182 (.agg #[x0, x1, x2, x3, x4, x5, x6, x7, x8, x9, x10, x11, x12, x13, x14, x15]) (.int .i64 12)).run Tryz.prog w = .ok x12 w := by kernel_rfl
theorem ix16_13 (x0 x1 x2 x3 x4 x5 x6 x7 x8 x9 x10 x11 x12 x13 x14 x15 : Value) (w : World) : (Instr.index 182 (.agg #[x0, x1, x2, x3, x4, x5, x6, x7, x8, x9, x10, x11, x12, x13, x14, x15]) (.int .i64 13)).run Tryz.prog w = .ok x13 w := by kernel_rfl
theorem ix16_14 (x0 x1 x2 x3 x4 x5 x6 x7 x8 x9 x10 x11 x12 x13 x14 x15 : Value) (w : World) : (Instr.index 182 (.agg #[x0, x1, x2, x3, x4, x5, x6, x7, x8, x9, x10, x11, x12, x13, x14, x15]) (.int .i64 14)).run Tryz.prog w = .ok x14 w := by kernel_rfl
theorem ix16_15 (x0 x1 x2 x3 x4 x5 x6 x7 x8 x9 x10 x11 x12 x13 x14 x15 : Value) (w : World) : (Instr.index 182 (.agg #[x0, x1, x2, x3, x4, x5, x6, x7, x8, x9, x10, x11, x12, x13, x14, x15]) (.int .i64 15)).run Tryz.prog w = .ok x15 w := by kernel_rfl
theorem ix16 (x0 x1 x2 x3 x4 x5 x6 x7 x8 x9 x10 x11 x12 x13 x14 x15 : Value) (i : Nat) (hi : i < 16) (w : World) : (Instr.index 182 (.agg #[x0, x1, x2, x3, x4, x5, x6, x7, x8, x9, x10, x11, x12, x13, x14, x15]) (.int .i64 i)).run Tryz.prog w = .ok ((#[x0, x1, x2, x3, x4, x5, x6, x7, x8, x9, x10, x11, x12, x13, x14, x15] : Array Value)[i]?.getD .nilIface) w := by
  have h : i = 0 ∨ i = 1 ∨ i = 2 ∨ i = 3 ∨ i = 4 ∨ i = 5 ∨ i = 6 ∨ i = 7 ∨ i = 8 ∨ i = 9 ∨ i = 10 ∨ i = 11 ∨ i = 12 ∨ i = 13 ∨ i = 14 ∨ i = 15 := by omega
  rcases h with rfl | rfl | rfl | rfl | rfl | rfl | rfl | rfl | rfl | rfl | rfl | rfl | rfl | rfl | rfl | rfl
  · exact ix16_0 x0 x1 x2 x3 x4 x5 x6 x7 x8 x9 x10 x11 x12 x13 x14 x15 w
  · exact ix16_1 x0 x1 x2 x3 x4 x5 x6 x7 x8 x9 x10 x11 x12 x13 x14 x15 w
  · exact ix16_2 x0 x1 x2 x3 x4 x5 x6 x7 x8 x9 x10 x11 x12 x13 x14 x15 w
  · exact ix16_3 x0 x1 x2 x3 x4 x5 x6 x7 x8 x9 x10 x11 x12 x13 x14 x15 w
  · exact ix16_4 x0 x1 x2 x3 x4 x5 x6 x7 x8 x9 x10 x11 x12 x13 x14 x15 w
  · exact ix16_5 x0 x1 x2 x3 x4 x5 x6 x7 x8 x9 x10 x11 x12 x13 x14 x15 w
  · exact ix16_6 x0 x1 x2 x3 x4 x5 x6 x7 x8 x9 x10 x11 x12 x13 x14 x15 w
  · exact ix16_7 x0 x1 x2 x3 x4 x5 x6 x7 x8 x9 x10 x11 x12 x13 x14 x15 w
  · exact ix16_8 x0 x1 x2 x3 x4 x5 x6 x7 x8 x9 x10 x11 x12 x13 x14 x15 w
  · exact ix16_9 x0 x1 x2 x3 x4 x5 x6 x7 x8 x9 x10 x11 x12 x13 x14 x15 w
  · exact ix16_10 x0 x1 x2 x3 x4 x5 x6 x7 x8 x9 x10 x11 x12 x13 x14 x15 w
  · exact ix16_11 x0 x1 x2 x3 x4 x5 x6 x7 x8 x9 x10 x11 x12 x13 x14 x15 w
  · exact ix16_12 x0 x1 x2 x3 x4 x5 x6 x7 x8 x9 x10 x11 x12 x13 x14 x15 w
  · exact ix16_13 x0 x1 x2 x3 x4 x5 x6 x7 x8 x9 x10 x11 x12 x13 x14 x15 w
  · exact ix16_14 x0 x1 x2 x3 x4 x5 x6 x7 x8 x9 x10 x11 x12 x13 x14 x15 w
  · exact ix16_15 x0 x1 x2 x3 x4 x5 x6 x7 x8 x9 x10 x11 x12 x13 x14 x15 w
theorem info3m : (Tryz.prog.info? 3).map (fun i => (i.zero, i.size, i.bytes)) = some (some (.int .i64 0), 1, 8) := by kernel_rfl

set_option maxRecDepth 100000 in
set_option maxHeartbeats 4000000 in
theorem fds_g (t k : Nat) (x0 x1 x2 x3 x4 x5 x6 x7 x8 x9 x10 x11 x12 x13 x14 x15 : Value) (w : World) (hT : TbAt w t k #[x0, x1, x2, x3, x4, x5, x6, x7, x8, x9, x10, x11, x12, x13, x14, x15]) (hth : ∀ i, i < 16 → IsTh ((#[x0, x1, x2, x3, x4, x5, x6, x7, x8, x9, x10, x11, x12, x13, x14, x15] : Array Value)[i]?.getD .nilIface)) :
    Calls Tryz.prog 204 #[ptr t] w fun e w' => ∃ v, e = .returned v ∧ w'.ownsRow w.heap.size 3 1 v (fdsTo #[x0, x1, x2, x3, x4, x5, x6, x7, x8, x9, x10, x11, x12, x13, x14, x15] 16).length (ints (fdsTo #[x0, x1, x2, x3, x4, x5, x6, x7, x8, x9, x10, x11, x12, x13, x14, x15] 16)) ∧ Below w.heap.size w w' := by
  have c0 := tb_cell' hT 0 1 rfl rfl
  have c1 := tb_cell' hT 1 2 rfl rfl
  have c2 := tb_cell' hT 2 3 rfl rfl
  have c3 := tb_cell' hT 3 4 rfl rfl
  have c4 := tb_cell' hT 4 5 rfl rfl
  have c5 := tb_cell' hT 5 6 rfl rfl
  have c6 := tb_cell' hT 6 7 rfl rfl
  have c7 := tb_cell' hT 7 8 rfl rfl
  have c8 := tb_cell' hT 8 9 rfl rfl
  have c9 := tb_cell' hT 9 10 rfl rfl
  have c10 := tb_cell' hT 10 11 rfl rfl
  have c11 := tb_cell' hT 11 12 rfl rfl
  have c12 := tb_cell' hT 12 13 rfl rfl
  have c13 := tb_cell' hT 13 14 rfl rfl
  have c14 := tb_cell' hT 14 15 rfl rfl
  have c15 := tb_cell' hT 15 16 rfl rfl
  obtain ⟨i3, hi3, hz0, hz1, hz2⟩ := info_parts info3m
  have q1 := nil_neq
  have q2 := nil_nnil
  have hix0 := ix16 x0 x1 x2 x3 x4 x5 x6 x7 x8 x9 x10 x11 x12 x13 x14 x15
  have HX := Lib.hid hix0
  have HH := Lib.hid hth
  clear hT hth hix0
  go_enter Tryz.func204, Tryz.ntmps204
  go_wp2_with fail
  clear c0 c1 c2 c3 c4 c5 c6 c7 c8 c9 c10 c11 c12 c13 c14 c15
  generalize hhs : (#[x0, x1, x2, x3, x4, x5, x6, x7, x8, x9, x10, x11, x12, x13, x14, x15] : Array Value) = hs at HX HH ⊢
  go_loopg [3, 10] 16 (fun g v3 v10 wr => ∃ (i : Nat) (a : Option Addr) (c : Nat), i + g = 16 ∧ v10 = .int .i64 i ∧ v3 = .slice a (fdsTo hs i).length c ∧ Hid (wr.ownsRow w.heap.size 3 1 (.slice a (fdsTo hs i).length c) (fdsTo hs i).length (ints (fdsTo hs i)) ∧ Below w.heap.size w wr))
  case atStart => exact ⟨0, none, 0, rfl, rfl, rfl, by simpa [fdsTo, ints] using World.ownsRow_nil _ _ _ _, Below.refl _ _⟩
  case round =>
    obtain ⟨i, a, c, hig, rfl, rfl, HI⟩ := hrel
    cases gk with
    | zero =>
      obtain rfl : i = 16 := by omega
      go_wp2_with fail
      go_ret
      exact ⟨_, rfl, HI.out.1, HI.out.2⟩
    | succ g =>
      have hlt : (i : Int) < 16 := by omega
      have hix := HX.out i (by omega)
      rcases HH.out i (by omega) with hn | ⟨T, v, hn⟩
      · rw [hn] at hix
        have HC : Hid (fdsTo hs (i + 1) = fdsTo hs i) := by show _ = _; rw [fdsTo_succ, hn]; simp [nilB]
        clear hn
        go_wp2_with fail
        go_roundg g
        case measure => omega
        case rel => exact ⟨i + 1, a, c, by omega, by go_num, by rw [HC.out], by rw [HC.out]; exact HI.out⟩
      · rw [hn] at hix
        have HC : Hid (fdsTo hs (i + 1) = fdsTo hs i ++ [i]) := by show _ = _; rw [fdsTo_succ, hn]; simp [nilB]
        have hcl := fdsTo_le hs i
        obtain ⟨ho, hB⟩ := HI.out
        have hz := hB.size
        have HE : Hid (ints (fdsTo hs i ++ [i]) = ints (fdsTo hs i) ++ [.int .i64 (i : Int)]) := by show _ = _; simp [ints]
        have HL : Hid ((fdsTo hs i ++ [i]).length = (fdsTo hs i).length + 1) := by show _ = _; simp
        generalize fdsTo hs i = l at *
        clear hn HI
        go_wp2_with (at_builtin; refine wpList_append_lies _ rfl (.tmp 16) (.tmp 18) 34 rfl w.heap.size 3 i3 (.int .i64 0) 1 8 Tryz.underlying34 hi3 hz0 hz1 hz2 rfl (by decide) (.slice a l.length c) l.length (ints l) rfl (ho.alloc _) ⟨wr.heap.size, 0, none⟩ 1 1 [.int .i64 i] rfl rfl (World.news_of_block (cs := #[.int .i64 i]) (al_new _ _ rfl)) (by simp [Value.oneCell']) (by decide) (by unfold maxLen; omega) (by omega) (by simp; omega) _ rfl ?_; intro g2 cap2 w2 hown hgrow hat hlt2)
        go_roundg g
        case measure => omega
        case rel =>
          refine ⟨i + 1, some ⟨g2, 0, none⟩, cap2, by omega, by go_num, by rw [HC.out, HL.out], ?_, ?_⟩
          · rw [HC.out, HL.out, HE.out]; exact hown
          · exact (hB.alloc hz _).grown hgrow (by simp; omega) (fun j ej => own_ge ho ej)
end Go.Proofs.YtfkoehfkiommpaaGreatDoor
