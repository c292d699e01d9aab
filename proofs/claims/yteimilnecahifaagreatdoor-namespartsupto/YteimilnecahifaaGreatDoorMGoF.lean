/- Proc.Write to the descriptor 2, whether the answer is told again or the call is done at once. -/
import Derived.Test.YteimilnecahifaaGreatDoorMWriteB
import Derived.Test.YteimilnecahifaaGreatDoorMRead
namespace Go.Proofs.YteimilnecahifaaGreatDoor
open Go.RowKit Go.Shelf Go.Maps
section
variable {G : Gh} {w : World} {k : KC} {held peak steps : Int} {rv v1 v2 : Value}

structure WrQ2 (G : Gh) (w : World) (k : KC) (rv v1 v2 : Value) (bs : List UInt8) (a : Nat) (u : World) (v' : Value) : Prop where
  an : AnAt u a (writeS G.faults k true bs).1.num (.slice none 0 0) (writeS G.faults k true bs).1.err
  ki : KI G u (writeS G.faults k true bs).2 rv v1 v'
  at' : ∀ b, v'.ownBlock = some b → v2.ownBlock = some b ∨ w.heap.size ≤ b
  turn : Turn (G.m :: G.kn :: G.s2 :: v2.ownBlock.toList) w u
theorem ask_write2 (h : PB G w false k held peak steps rv v1 v2) (bs : List UInt8) (hb0 : bs ≠ []) (hL : bs.length ≤ 1073741824) (hO : k.err.length ≤ 549755813888) (h0 : 0 ≤ steps) (h1 : steps < 4611686018427387904) {W : World} {a b c : Nat} {kv : Value} (hX : Turn [] w W) (x1 : W.cell? ⟨a, 0, none⟩ = some (ptr G.p)) (x2 : W.cell? ⟨b, 0, none⟩ = some (.int .i64 2)) (x3 : W.cell? ⟨c, 0, none⟩ = some kv) (ha : w.heap.size ≤ a) (hb : w.heap.size ≤ b) (hc : w.heap.size ≤ c) (hkv : W.ownsRow w.heap.size 5 1 kv bs.length (u8s bs)) :
    Calls Tryz.prog 238 #[ptr G.p, .func (.func 239) #[] #[ptr a, ptr b, ptr c]] W fun e w' => ∃ an q' u', e = .returned (ptr an) ∧ (∃ v', WrQ2 G w k rv v1 v2 bs an u' v') ∧ McAt u' G.m G.p G.main (.slice (some ⟨G.pg, 0, none⟩) 1 G.pc) 1 .nilFunc true (steps + 1) false 0 ∧ w' = u'.drewN q' := by
  obtain ⟨n1, n2, n3, n4, n5, n6, n7, n8, n9, n10, n11, n12, n13, n14, n15, n16⟩ := h.nem
  have hfm := h.fm
  have hlt := h.lts
  have hbs := h.base
  obtain ⟨ka, hk, _, he⟩ := h.act
  obtain rfl := he rfl
  refine pask_once (hX.ob h.pr (by simp)) (hX.ob h.mc (by simp)) (by decide) h0 h1 (cf_write _) ?_
  intro u hu hTu
  have hTw : Turn [G.m] w u := (hX.mono (by simp)).trans hTu
  have hku : KI G u ka rv v1 v2 := hk.keep hTw (by
    intro b hb
    have e : b = G.m := by simpa using hb
    subst e
    exact ⟨n2, n4, n5, n6, n3, hfm.1.symm, hfm.2.1.symm, n7, n8⟩)
  have hku2 : u.ownsRow w.heap.size 5 1 kv bs.length (u8s bs) := own_turn hkv hTu (fun g hg e => by have := own_ge hkv hg; simp at e; omega)
  have hsz := hTw.size
  refine (write1_k2 hku kv bs (by_own hku2) hb0 hL hO (fun b off n c e => ?_) (hTw.cell h.tbc (by simpa using n1.symm)) (hTu.cell x1 (by simp; omega)) (hTu.cell x2 (by simp; omega)) (hTu.cell x3 (by simp; omega))).mono ?_
  · have hge : w.heap.size ≤ b := by
      rcases hkv.2 with ⟨e1, _⟩ | ⟨g, cap, cur, e1, hg, _⟩
      · rw [e1] at e; cases e
      · rw [e1] at e; cases e; exact hg
    omega
  rintro e u' ⟨an, v', rfl, ha, hge, hki, hat, hT⟩
  have herr := writeS_err G.faults ka true bs
  refine ⟨an, _, rfl, h_cell ha 10 rfl, by omega, by omega, hT.ob hu (by simp; exact ⟨n2, n6, n8⟩), v', ha, hki, ?_, (hTw.mono (by simp)).trans (hT.mono (fun x hx => by simp at hx ⊢; exact .inr hx))⟩
  intro x hx
  rcases hat with h1 | ⟨g, h1, h2⟩
  · exact .inl (h1.symm.trans hx)
  · rw [hx] at h1; cases h1; exact .inr (Nat.le_trans hsz h2)

set_option maxRecDepth 100000 in
set_option maxHeartbeats 4000000 in
theorem pwrite_once2 (h : PB G w false k held peak steps rv v1 v2) (b : Value) (bs : List UInt8) (hb : ByAt w b bs) (hb0 : bs ≠ []) (hL : bs.length ≤ 1073741824) (hO : k.err.length ≤ 549755813888) (h0 : 0 ≤ steps) (h1 : steps < 4611686018427387904) :
    Calls Tryz.prog 218 #[ptr G.p, .int .i64 2, b] w fun e w' => ∃ v', e = .returned (.tuple #[.int .i64 (writeS G.faults k true bs).1.num, .int .i64 (writeS G.faults k true bs).1.err]) ∧ PB G w' false (writeS G.faults k true bs).2 held peak (steps + 1) rv v1 v' ∧ (∀ b, v'.ownBlock = some b → v2.ownBlock = some b ∨ w.heap.size ≤ b) ∧ Turn (G.m :: G.kn :: G.s2 :: v2.ownBlock.toList) w w' := by
  have hmf : ∀ (fn : Fn) (first cap : Array Value) (w : World), (Instr.makeFunc fn first cap).run Tryz.prog w = .ok (.func fn first cap) w := fun _ _ _ _ => rfl
  have hT0 : Turn [] w ((w.alloc (.cells #[ptr G.p] 76)).alloc (.cells #[.int .i64 2] 3)) := (Turn.alloc w _).trans (Turn.alloc _ _)
  have hr := pretold_none (hT0.ob h.pr (by simp)) (hT0.ob h.mc (by simp)) (by decide)
  have q1 := an_nil
  have HH := Lib.hid h
  have hask := fun (W : World) (a c : Nat) kv hX x1 x2 x3 ha hbb hc hkv => ask_write2 h bs hb0 hL hO h0 h1 (W := W) (a := a) (b := w.heap.size + 1) (c := c) (kv := kv) hX x1 x2 x3 ha hbb hc hkv
  have HASK := Lib.hid hask
  obtain ⟨xb, cb, rfl⟩ := hb.shape
  have HB := Lib.hid hb
  clear h hask hb
  go_enter Tryz.func218, Tryz.ntmps218
  go_wp2_with (go_at_call 237; refine hr.mono ?_; rintro e w' ⟨rfl, q, hw'⟩; rw [hw']; clear hw')
  have hTX : Turn [] w (((w.alloc (.cells #[ptr G.p] 76)).alloc (.cells #[.int .i64 2] 3)).drewN q) := hT0.drewN q
  have x1 : (((w.alloc (.cells #[ptr G.p] 76)).alloc (.cells #[.int .i64 2] 3)).drewN q).cell? ⟨w.heap.size, 0, none⟩ = some (ptr G.p) := al_cell _ (World.cell?_alloc_new w #[ptr G.p] 76 0)
  have x2 : (((w.alloc (.cells #[ptr G.p] 76)).alloc (.cells #[.int .i64 2] 3)).drewN q).cell? ⟨w.heap.size + 1, 0, none⟩ = some (.int .i64 2) := by
    have := World.cell?_alloc_new (w.alloc (.cells #[ptr G.p] 76)) #[.int .i64 2] 3 0
    have e : (w.alloc (.cells #[ptr G.p] 76)).heap.size = w.heap.size + 1 := by simp
    rw [e] at this; exact this
  have hsz : (((w.alloc (.cells #[ptr G.p] 76)).alloc (.cells #[.int .i64 2] 3)).drewN q).heap.size = w.heap.size + 2 := by simp
  generalize ((w.alloc (.cells #[ptr G.p] 76)).alloc (.cells #[.int .i64 2] 3)).drewN q = X at hTX x1 x2 hsz ⊢
  refine (bclone_by _ bs X hL (HB.out.turn hTX (by simp))).mono ?_
  rintro e w2 ⟨kv, rfl, hkv, hb2⟩
  have hT2 : Turn [] w w2 := hTX.trans (Turn.below hb2)
  have s2 := hb2.size
  have y1 := (Turn.below (S := []) hb2).cell x1 (by simp)
  have y2 := (Turn.below (S := []) hb2).cell x2 (by simp)
  obtain ⟨xk, ck, rfl⟩ := own_shape hkv
  have hT3 : Turn [] w2 (w2.alloc (.cells #[.slice xk bs.length ck] 27)) := Turn.alloc w2 _
  have y3b : (w2.alloc (.cells #[.slice xk bs.length ck] 27)).cell? ⟨w2.heap.size, 0, none⟩ = some (.slice xk bs.length ck) := World.cell?_alloc_new w2 #[.slice xk bs.length ck] 27 0
  have ha := HASK.out (w2.alloc (.cells #[.slice xk bs.length ck] 27)) w.heap.size w2.heap.size _ (hT2.trans hT3) (hT3.cell y1 (by simp)) (hT3.cell y2 (by simp)) y3b (Nat.le_refl _) (Nat.le_succ _) hT2.size (own_less0 (own_turn hkv hT3 (by simp)) (by omega))
  have y1b := hT3.cell y1 (by simp)
  clear hr hT0 hTX x1 x2 hkv hb2 hT3 HASK HB y1
  go_wp2_with (go_at_call 238; refine ha.mono ?_; rintro e w' ⟨an, q', u, rfl, ⟨v', hQ⟩, hM, hw'⟩; rw [hw']; clear hw')
  obtain ⟨hA, hki, hat, hTu⟩ := hQ
  have hA' : AnAt (u.drewN q') an (writeS G.faults k true bs).1.num (.slice none 0 0) (writeS G.faults k true bs).1.err := hA
  have hki' : KI G (u.drewN q') (writeS G.faults k true bs).2 rv v1 v' := hki.keep (S := []) ((Turn.refl [] u).drewN q') (by simp)
  have hM' : McAt (u.drewN q') G.m G.p G.main (.slice (some ⟨G.pg, 0, none⟩) 1 G.pc) 1 .nilFunc true (steps + 1) false 0 := hM
  have hTu' : Turn (G.m :: G.kn :: G.s2 :: v2.ownBlock.toList) w (u.drewN q') := hTu.drewN q'
  generalize u.drewN q' = U at hA' hki' hM' hTu' ⊢
  have d0 := h_cell hA' 0 rfl
  have d9 := h_cell hA' 10 rfl
  have HP := Lib.hid (And.intro hki' (And.intro hM' (And.intro hTu' hat)))
  clear hA hki hM hTu hA' hki' hM' hTu' hat ha
  generalize hAe : writeS G.faults k true bs = A at *
  have HAe := Lib.hid hAe
  clear hAe
  go_quiet (fail)
  go_wp2
  go_ret2
  have eA := HAe.out
  subst eA
  obtain ⟨hki, hM, hTu, hat⟩ := HP.out
  have hT4 : Turn (G.m :: G.kn :: G.s2 :: v2.ownBlock.toList) w (U.drewN nq) := hTu.drewN nq
  exact ⟨v', rfl, HH.out.next hT4 (fun b hb => by simp at hb; rcases hb with h | h | h | h <;> simp [h]) hM (hki.keep (S := []) ((Turn.refl [] U).drewN nq) (by simp)) (fun b h => .inl h) hat, hat, hT4⟩

/-- A Write of the descriptor 2. -/
theorem pwrite_B2 {fresh : Bool} (h : PB G w fresh k held peak steps rv v1 v2) (b : Value) (bs : List UInt8) (hb : ByAt w b bs) (hb0 : bs ≠ []) (hL : bs.length ≤ 1073741824) (hO : k.err.length ≤ 549755813888) (hf : fresh = true → G.first = .write true bs) (h0 : 0 ≤ steps) (h1 : steps < 4611686018427387904) :
    Calls Tryz.prog 218 #[ptr G.p, .int .i64 2, b] w fun e w' => ∃ v', e = .returned (.tuple #[.int .i64 (writeS G.faults k true bs).1.num, .int .i64 (writeS G.faults k true bs).1.err]) ∧ PB G w' false (writeS G.faults k true bs).2 held peak (steps + if fresh then 0 else 1) rv v1 v' ∧ (∀ b, v'.ownBlock = some b → v2.ownBlock = some b ∨ w.heap.size ≤ b) ∧ Turn (G.m :: G.kn :: G.s2 :: v2.ownBlock.toList) w w' := by
  cases fresh with
  | false => exact pwrite_once2 h b bs hb hb0 hL hO h0 h1
  | true =>
    obtain ⟨ka, hk, he, _⟩ := h.act
    have he := he rfl
    rw [hf rfl, execS_write] at he
    rw [he]
    have hnem := h.nem
    have hfm := h.fm
    refine (pwrite_told (fd := 2) (b := b) h.pr h.mc (by decide) (by decide) h.pcell hnem.2.2.2.2.2.2.2.2.1 hnem.2.2.2.2.2.2.2.2.2.1 (h_cell h.an 0 rfl) (h_cell h.an 10 rfl)).mono ?_
    rintro e w' ⟨rfl, hM, hT⟩
    have hkw : KI G w' ka rv v1 v2 := hk.keep hT (by
      intro b hb
      have e : b = G.m := by simpa using hb
      subst e
      exact ⟨hnem.2.1, hnem.2.2.2.1, hnem.2.2.2.2.1, hnem.2.2.2.2.2.1, hnem.2.2.1, hfm.1.symm, hfm.2.1.symm, hnem.2.2.2.2.2.2.1, hnem.2.2.2.2.2.2.2.1⟩)
    refine ⟨v2, rfl, ?_, fun b h => .inl h, hT.mono (by simp)⟩
    have := h.next hT (fun b hb => by simp at hb; simp [hb]) (by simpa using hM) hkw (fun b h => .inl h) (fun b h => .inl h)
    simpa using this
end
end Go.Proofs.YteimilnecahifaaGreatDoor

namespace Go.Proofs.YteimilnecahifaaGreatDoor
open Go.RowKit Go.Shelf Go.Maps

/-- 'nx' does a call: what it has captured. -/
structure Wt (G : Gh) (w : World) (c : KCall) (nx : Value) : Prop where
  rd : c.isRead = true → False
  wr : c.isRead = false → ∃ a b x kv, nx = .func (.func 239) #[] #[ptr a, ptr b, ptr x] ∧ w.cell? ⟨a, 0, none⟩ = some (ptr G.p) ∧ w.cell? ⟨b, 0, none⟩ = some (.int .i64 (if c.isErr then 2 else 1)) ∧ w.cell? ⟨x, 0, none⟩ = some kv ∧ w.ownsRow G.base 5 1 kv c.b.length (u8s c.b) ∧ G.base ≤ a ∧ G.base ≤ b ∧ G.base ≤ x
theorem Wt.keep {G : Gh} {w w' : World} {c : KCall} {nx : Value} {S : List Nat} (h : Wt G w c nx) (hT : Turn S w w') (hS : ∀ b ∈ S, b < G.base) : Wt G w' c nx where
  rd := fun e => (h.rd e).elim
  wr := fun e => by
    obtain ⟨a, b, x, kv, h1, h2, h3, h4, h8, h5, h6, h7⟩ := h.wr e
    exact ⟨a, b, x, kv, h1, hT.cell h2 (fun e => by have := hS _ e; simp at this; omega), hT.cell h3 (fun e => by have := hS _ e; simp at this; omega), hT.cell h4 (fun e => by have := hS _ e; simp at this; omega), own_turn h8 hT (fun g hg e => by have := hS _ e; have := own_ge h8 hg; omega), h5, h6, h7⟩

section
variable {G : Gh} {w : World} {held peak : Int}
set_option maxRecDepth 100000 in
set_option maxHeartbeats 4000000 in
theorem pwrite_A1 (hp : PrAt w G.p G.kn G.tb G.args G.env G.cwd G.l1 G.l2 G.l3 held peak G.box G.kin G.isChild (ptr G.m)) (h : McAt w G.m G.p G.main (.slice none 0 0) 0 .nilFunc false 0 false 0) (hbs : G.base ≤ w.heap.size) (b : Value) (bs : List UInt8) (hb : ByAt w b bs) (hL : bs.length ≤ 1073741824) :
    Calls Tryz.prog 218 #[ptr G.p, .int .i64 1, b] w fun e w' => e = .panicked waitsP ∧ ∃ nx, (∃ f y z, nx = .func f y z) ∧ Wt G w' (.write false bs) nx ∧ McAt w' G.m G.p G.main (.slice none 0 0) 0 nx false 0 false 0 ∧ Turn [G.m] w w' := by
  have hmf : ∀ (fn : Fn) (first cap : Array Value) (w : World), (Instr.makeFunc fn first cap).run Tryz.prog w = .ok (.func fn first cap) w := fun _ _ _ _ => rfl
  have hT0 : Turn [] w ((w.alloc (.cells #[ptr G.p] 76)).alloc (.cells #[.int .i64 1] 3)) := (Turn.alloc w _).trans (Turn.alloc _ _)
  have hr := pretold_none (hT0.ob hp (by simp)) (hT0.ob h (by simp)) (by decide)
  have q1 := an_nil
  have HH := Lib.hid (And.intro hp h)
  have hml := h_lt h
  obtain ⟨xb, cb, rfl⟩ := hb.shape
  have HB := Lib.hid hb
  clear h hp hb
  go_enter Tryz.func218, Tryz.ntmps218
  go_wp2_with (go_at_call 237; refine hr.mono ?_; rintro e w' ⟨rfl, q, hw'⟩; rw [hw']; clear hw')
  have hTX : Turn [] w (((w.alloc (.cells #[ptr G.p] 76)).alloc (.cells #[.int .i64 1] 3)).drewN q) := hT0.drewN q
  have x1 : (((w.alloc (.cells #[ptr G.p] 76)).alloc (.cells #[.int .i64 1] 3)).drewN q).cell? ⟨w.heap.size, 0, none⟩ = some (ptr G.p) := al_cell _ (World.cell?_alloc_new w #[ptr G.p] 76 0)
  have x2 : (((w.alloc (.cells #[ptr G.p] 76)).alloc (.cells #[.int .i64 1] 3)).drewN q).cell? ⟨w.heap.size + 1, 0, none⟩ = some (.int .i64 1) := by
    have := World.cell?_alloc_new (w.alloc (.cells #[ptr G.p] 76)) #[.int .i64 1] 3 0
    have e : (w.alloc (.cells #[ptr G.p] 76)).heap.size = w.heap.size + 1 := by simp
    rw [e] at this; exact this
  have hsz : (((w.alloc (.cells #[ptr G.p] 76)).alloc (.cells #[.int .i64 1] 3)).drewN q).heap.size = w.heap.size + 2 := by simp
  generalize ((w.alloc (.cells #[ptr G.p] 76)).alloc (.cells #[.int .i64 1] 3)).drewN q = X at hTX x1 x2 hsz ⊢
  refine (bclone_by _ bs X hL (HB.out.turn hTX (by simp))).mono ?_
  rintro e w2 ⟨kv, rfl, hkv, hb2⟩
  have hT2 : Turn [] w w2 := hTX.trans (Turn.below hb2)
  have s2 := hb2.size
  have y1 := (Turn.below (S := []) hb2).cell x1 (by simp)
  have y2 := (Turn.below (S := []) hb2).cell x2 (by simp)
  obtain ⟨xk, ck, rfl⟩ := own_shape hkv
  have hT3 : Turn [] w2 (w2.alloc (.cells #[.slice xk bs.length ck] 27)) := Turn.alloc w2 _
  have y3b : (w2.alloc (.cells #[.slice xk bs.length ck] 27)).cell? ⟨w2.heap.size, 0, none⟩ = some (.slice xk bs.length ck) := World.cell?_alloc_new w2 #[.slice xk bs.length ck] 27 0
  have y1b := hT3.cell y1 (by simp)
  have y2b := hT3.cell y2 (by simp)
  have hkv3 := own_turn hkv hT3 (by simp)
  have hTw3 := hT2.trans hT3
  have hs3 : w2.heap.size < (w2.alloc (.cells #[.slice xk bs.length ck] 27)).heap.size := by simp
  have hp3 := hTw3.ob HH.out.1 (by simp)
  have hm3 := hTw3.ob HH.out.2 (by simp)
  have ha := pask_waits (f := .func 239) (y := #[]) (z := #[ptr w.heap.size, ptr (w.heap.size + 1), ptr w2.heap.size]) hp3 hm3 (by decide)
  generalize hW3 : w2.alloc (.cells #[.slice xk bs.length ck] 27) = W3 at y3b y1b y2b hkv3 hTw3 hs3 hm3 ha
  have S4 : Hid (∀ q2 w', w' = (W3.drewN q2).setCell ⟨G.m, 4, none⟩ (.func (.func 239) #[] #[ptr w.heap.size, ptr (w.heap.size + 1), ptr w2.heap.size]) → Turn [G.m] W3 w' ∧ McAt w' G.m G.p G.main (.slice none 0 0) 0 (.func (.func 239) #[] #[ptr w.heap.size, ptr (w.heap.size + 1), ptr w2.heap.size]) false 0 false 0) := by
    intro q2 w' hw'
    refine ⟨by rw [hw']; exact ((Turn.refl [G.m] _).drewN q2).trans (Turn.set _ G.m 4 _ (by simp)), ?_⟩
    have := h_set (w := W3.drewN q2) hm3 4 (.func (.func 239) #[] #[ptr w.heap.size, ptr (w.heap.size + 1), ptr w2.heap.size])
    rw [hw']; simpa using this
  have HK := Lib.hid (And.intro hkv3 (And.intro hTw3 (And.intro y2b y3b)))
  have H1 := Lib.hid y1b
  clear hr hT0 hTX x1 x2 hkv hb2 hT3 HB y1 y2 hm3 hp3 hkv3 hTw3 y2b y3b
  go_wp2_with (go_at_call 238; refine ha.mono ?_; rintro e w' ⟨rfl, q2, hw'⟩; obtain ⟨hT, hM⟩ := S4.out q2 w' hw'; clear hw')
  obtain ⟨hkv3, hTw3, y2b, y3b⟩ := HK.out
  have hsz2 := hT2.size
  refine ⟨rfl, rfl, _, ⟨_, _, _, rfl⟩, ⟨fun e => (by cases e), fun _ => ⟨w.heap.size, w.heap.size + 1, w2.heap.size, _, rfl, hT.cell H1.out (by simp; omega), hT.cell y2b (by simp; omega), hT.cell y3b (by simp; omega), own_less0 (own_turn hkv3 hT (fun g hg e => by have := own_ge hkv3 hg; simp at e; omega)) (by omega), by omega, by omega, by omega⟩⟩, hM, (hTw3.mono (by simp)).trans hT⟩

set_option maxRecDepth 100000 in
set_option maxHeartbeats 4000000 in
theorem pwrite_A2 (hp : PrAt w G.p G.kn G.tb G.args G.env G.cwd G.l1 G.l2 G.l3 held peak G.box G.kin G.isChild (ptr G.m)) (h : McAt w G.m G.p G.main (.slice none 0 0) 0 .nilFunc false 0 false 0) (hbs : G.base ≤ w.heap.size) (b : Value) (bs : List UInt8) (hb : ByAt w b bs) (hL : bs.length ≤ 1073741824) :
    Calls Tryz.prog 218 #[ptr G.p, .int .i64 2, b] w fun e w' => e = .panicked waitsP ∧ ∃ nx, (∃ f y z, nx = .func f y z) ∧ Wt G w' (.write true bs) nx ∧ McAt w' G.m G.p G.main (.slice none 0 0) 0 nx false 0 false 0 ∧ Turn [G.m] w w' := by
  have hmf : ∀ (fn : Fn) (first cap : Array Value) (w : World), (Instr.makeFunc fn first cap).run Tryz.prog w = .ok (.func fn first cap) w := fun _ _ _ _ => rfl
  have hT0 : Turn [] w ((w.alloc (.cells #[ptr G.p] 76)).alloc (.cells #[.int .i64 2] 3)) := (Turn.alloc w _).trans (Turn.alloc _ _)
  have hr := pretold_none (hT0.ob hp (by simp)) (hT0.ob h (by simp)) (by decide)
  have q1 := an_nil
  have HH := Lib.hid (And.intro hp h)
  have hml := h_lt h
  obtain ⟨xb, cb, rfl⟩ := hb.shape
  have HB := Lib.hid hb
  clear h hp hb
  go_enter Tryz.func218, Tryz.ntmps218
  go_wp2_with (go_at_call 237; refine hr.mono ?_; rintro e w' ⟨rfl, q, hw'⟩; rw [hw']; clear hw')
  have hTX : Turn [] w (((w.alloc (.cells #[ptr G.p] 76)).alloc (.cells #[.int .i64 2] 3)).drewN q) := hT0.drewN q
  have x1 : (((w.alloc (.cells #[ptr G.p] 76)).alloc (.cells #[.int .i64 2] 3)).drewN q).cell? ⟨w.heap.size, 0, none⟩ = some (ptr G.p) := al_cell _ (World.cell?_alloc_new w #[ptr G.p] 76 0)
  have x2 : (((w.alloc (.cells #[ptr G.p] 76)).alloc (.cells #[.int .i64 2] 3)).drewN q).cell? ⟨w.heap.size + 1, 0, none⟩ = some (.int .i64 2) := by
    have := World.cell?_alloc_new (w.alloc (.cells #[ptr G.p] 76)) #[.int .i64 2] 3 0
    have e : (w.alloc (.cells #[ptr G.p] 76)).heap.size = w.heap.size + 1 := by simp
    rw [e] at this; exact this
  have hsz : (((w.alloc (.cells #[ptr G.p] 76)).alloc (.cells #[.int .i64 2] 3)).drewN q).heap.size = w.heap.size + 2 := by simp
  generalize ((w.alloc (.cells #[ptr G.p] 76)).alloc (.cells #[.int .i64 2] 3)).drewN q = X at hTX x1 x2 hsz ⊢
  refine (bclone_by _ bs X hL (HB.out.turn hTX (by simp))).mono ?_
  rintro e w2 ⟨kv, rfl, hkv, hb2⟩
  have hT2 : Turn [] w w2 := hTX.trans (Turn.below hb2)
  have s2 := hb2.size
  have y1 := (Turn.below (S := []) hb2).cell x1 (by simp)
  have y2 := (Turn.below (S := []) hb2).cell x2 (by simp)
  obtain ⟨xk, ck, rfl⟩ := own_shape hkv
  have hT3 : Turn [] w2 (w2.alloc (.cells #[.slice xk bs.length ck] 27)) := Turn.alloc w2 _
  have y3b : (w2.alloc (.cells #[.slice xk bs.length ck] 27)).cell? ⟨w2.heap.size, 0, none⟩ = some (.slice xk bs.length ck) := World.cell?_alloc_new w2 #[.slice xk bs.length ck] 27 0
  have y1b := hT3.cell y1 (by simp)
  have y2b := hT3.cell y2 (by simp)
  have hkv3 := own_turn hkv hT3 (by simp)
  have hTw3 := hT2.trans hT3
  have hs3 : w2.heap.size < (w2.alloc (.cells #[.slice xk bs.length ck] 27)).heap.size := by simp
  have hp3 := hTw3.ob HH.out.1 (by simp)
  have hm3 := hTw3.ob HH.out.2 (by simp)
  have ha := pask_waits (f := .func 239) (y := #[]) (z := #[ptr w.heap.size, ptr (w.heap.size + 1), ptr w2.heap.size]) hp3 hm3 (by decide)
  generalize hW3 : w2.alloc (.cells #[.slice xk bs.length ck] 27) = W3 at y3b y1b y2b hkv3 hTw3 hs3 hm3 ha
  have S4 : Hid (∀ q2 w', w' = (W3.drewN q2).setCell ⟨G.m, 4, none⟩ (.func (.func 239) #[] #[ptr w.heap.size, ptr (w.heap.size + 1), ptr w2.heap.size]) → Turn [G.m] W3 w' ∧ McAt w' G.m G.p G.main (.slice none 0 0) 0 (.func (.func 239) #[] #[ptr w.heap.size, ptr (w.heap.size + 1), ptr w2.heap.size]) false 0 false 0) := by
    intro q2 w' hw'
    refine ⟨by rw [hw']; exact ((Turn.refl [G.m] _).drewN q2).trans (Turn.set _ G.m 4 _ (by simp)), ?_⟩
    have := h_set (w := W3.drewN q2) hm3 4 (.func (.func 239) #[] #[ptr w.heap.size, ptr (w.heap.size + 1), ptr w2.heap.size])
    rw [hw']; simpa using this
  have HK := Lib.hid (And.intro hkv3 (And.intro hTw3 (And.intro y2b y3b)))
  have H1 := Lib.hid y1b
  clear hr hT0 hTX x1 x2 hkv hb2 hT3 HB y1 y2 hm3 hp3 hkv3 hTw3 y2b y3b
  go_wp2_with (go_at_call 238; refine ha.mono ?_; rintro e w' ⟨rfl, q2, hw'⟩; obtain ⟨hT, hM⟩ := S4.out q2 w' hw'; clear hw')
  obtain ⟨hkv3, hTw3, y2b, y3b⟩ := HK.out
  have hsz2 := hT2.size
  refine ⟨rfl, rfl, _, ⟨_, _, _, rfl⟩, ⟨fun e => (by cases e), fun _ => ⟨w.heap.size, w.heap.size + 1, w2.heap.size, _, rfl, hT.cell H1.out (by simp; omega), hT.cell y2b (by simp; omega), hT.cell y3b (by simp; omega), own_less0 (own_turn hkv3 hT (fun g hg e => by have := own_ge hkv3 hg; simp at e; omega)) (by omega), by omega, by omega, by omega⟩⟩, hM, (hTw3.mono (by simp)).trans hT⟩
end
end Go.Proofs.YteimilnecahifaaGreatDoor

namespace Go.Proofs.YteimilnecahifaaGreatDoor
open Go.RowKit Go.Shelf Go.Maps

theorem store_nilfn {w : World} {a : Addr} {v0 : Value} (hc : w.cell? a = some v0) (hz : w.frozen? a = false) : (store a .nilFunc).run Tryz.prog w = .ok () (w.setCell a .nilFunc) := by simp [store, Sem.run, hc, hz]
section
variable {G : Gh} {w : World} {rv v1 v2 : Value} {main past next : Value} {told steps st0 : Int} {once done : Bool}
set_option maxRecDepth 100000 in
set_option maxHeartbeats 2000000 in
theorem end_c (hp : w.cell? ⟨G.p, 1, none⟩ = some (ptr G.tb)) (hpm : G.p ≠ G.m) (h : McAt w G.m G.p main past told next once steps done st0) (hf : FS G w (has3 G) 1 1 1 rv v1 v2) (hne : G.s1 ≠ G.s2) (st : Int) :
    Calls Tryz.prog 103 #[ptr G.m, .int .i64 st] w fun e w' => (∃ r, e = .returned r) ∧ McAt w' G.m G.p .nilFunc (.slice none 0 0) told .nilFunc once steps true st ∧ FS G w' (tabI G 3) 0 0 0 rv v1 v2 ∧ Turn [G.m, G.tb, G.so, G.s1, G.s2] w w' := by
  have n1 := h_ne h hf.tb (by decide)
  have n2 := h_ne h hf.so (by decide)
  have n3 := h_ne h hf.k1 (by decide)
  have n4 := h_ne h hf.k2 (by decide)
  have m0 := h_cell h 0 rfl
  have m7 := h_cell h 7 rfl
  have y7 := h_fz h 7
  have m8 := h_cell h 8 rfl
  have y8 := h_fz h 8
  have ha : McAt (w.setCell ⟨G.m, 7, none⟩ (.bool true)) G.m G.p main past told next once steps true st0 := by simpa using h_set h 7 (.bool true)
  have hb : McAt ((w.setCell ⟨G.m, 7, none⟩ (.bool true)).setCell ⟨G.m, 8, none⟩ (.int .i64 st)) G.m G.p main past told next once steps true st := by simpa using h_set ha 8 (.int .i64 st)
  have hTb : Turn [G.m] w ((w.setCell ⟨G.m, 7, none⟩ (.bool true)).setCell ⟨G.m, 8, none⟩ (.int .i64 st)) := (Turn.set w G.m 7 _ (by simp)).trans (Turn.set _ G.m 8 _ (by simp))
  have HP := Lib.hid hp
  have HF := Lib.hid hf
  have HB := Lib.hid hb
  clear h hp hf ha hb
  go_enter Tryz.func103, Tryz.ntmps103
  go_wp2_with fail
  have hb := HB.out
  generalize (w.setCell ⟨G.m, 7, none⟩ (.bool true)).setCell ⟨G.m, 8, none⟩ (.int .i64 st) = W at hb hTb ⊢
  rw [store_nilfn (h_cell hb 1 rfl) (h_fz hb 1)]
  have hc : McAt (W.setCell ⟨G.m, 1, none⟩ .nilFunc) G.m G.p .nilFunc past told next once steps true st := by simpa using h_set hb 1 .nilFunc
  have hTc : Turn [G.m] w (W.setCell ⟨G.m, 1, none⟩ .nilFunc) := hTb.trans (Turn.set W G.m 1 _ (by simp))
  generalize W.setCell ⟨G.m, 1, none⟩ .nilFunc = W2 at hc hTc ⊢
  have c2 := h_cell hc 2 rfl
  have z2 := h_fz hc 2
  have hd : McAt (W2.setCell ⟨G.m, 2, none⟩ (.slice none 0 0)) G.m G.p .nilFunc (.slice none 0 0) told next once steps true st := by simpa using h_set hc 2 (.slice none 0 0)
  have HD := Lib.hid hd
  clear hb hTb hc hd m0 m7 y7 m8 y8 HB
  simp only [Result.andThen_ok]
  go_wp2_with fail
  have hd := HD.out
  have hTd : Turn [G.m] w (W2.setCell ⟨G.m, 2, none⟩ (.slice none 0 0)) := hTc.trans (Turn.set W2 G.m 2 _ (by simp))
  generalize W2.setCell ⟨G.m, 2, none⟩ (.slice none 0 0) = W3 at hd hTd ⊢
  rw [store_nilfn (h_cell hd 4 rfl) (h_fz hd 4)]
  have he : McAt (W3.setCell ⟨G.m, 4, none⟩ .nilFunc) G.m G.p .nilFunc (.slice none 0 0) told .nilFunc once steps true st := by simpa using h_set hd 4 .nilFunc
  have hTe : Turn [G.m] w (W3.setCell ⟨G.m, 4, none⟩ .nilFunc) := hTd.trans (Turn.set W3 G.m 4 _ (by simp))
  generalize W3.setCell ⟨G.m, 4, none⟩ .nilFunc = W4 at he hTe ⊢
  have e0 := h_cell he 0 rfl
  have p1 := hTe.cell HP.out (by simpa using hpm)
  have hF2 : FS G W4 (has3 G) 1 1 1 rv v1 v2 := ⟨hTe.ob HF.out.tb (by simpa using n1.symm), hTe.ob HF.out.so (by simpa using n2.symm), hTe.ob HF.out.k1 (by simpa using n3.symm), hTe.ob HF.out.k2 (by simpa using n4.symm)⟩
  have hfr := free_fs hF2 hne
  have HE := Lib.hid he
  have HTe := Lib.hid hTe
  clear hd hTd he hTe hF2 HD HP HF hTc c2 z2
  simp only [Result.andThen_ok]
  go_wp2_with (go_at_call 136; refine hfr.mono ?_; rintro r w2 ⟨⟨v, rfl⟩, hF3, hT3⟩)
  go_end0
  exact ⟨⟨_, rfl⟩, hT3.ob HE.out (by simp; exact ⟨n1, n2, n3, n4⟩), hF3, (HTe.out.mono (by simp)).trans (hT3.mono (by simp))⟩
end
end Go.Proofs.YteimilnecahifaaGreatDoor

namespace Go.Proofs.YteimilnecahifaaGreatDoor
open Go.RowKit Go.Shelf Go.Maps

end Go.Proofs.YteimilnecahifaaGreatDoor

namespace Go.Proofs.YteimilnecahifaaGreatDoor
open Go.RowKit Go.Shelf Go.Maps

theorem any_nnil (w : World) : (binOp .neq 20 .nilIface .nilIface).run Tryz.prog w = .ok (.bool false) w := by kernel_rfl
set_option maxHeartbeats 1000000 in
set_option maxRecDepth 100000 in
/-- What goOn defers, where main has ended: who ran before runs again. -/
theorem catch_idle {w : World} {bb bm p kn tb kin : Nat} {args env box : Value} {cwd : ByteArray} {l1 l2 l3 held peak : Int} {isChild : Bool} {m : Nat} {before runs : Value}
    (hbb : w.cell? ⟨bb, 0, none⟩ = some before) (hbm : w.cell? ⟨bm, 0, none⟩ = some (ptr m)) (hp : PrAt w p kn tb args env cwd l1 l2 l3 held peak box kin isChild runs) (m0 : w.cell? ⟨m, 0, none⟩ = some (ptr p)) (hb : before = .pointer none ∨ ∃ a, before = .pointer (some a)) :
    CallsD Tryz.prog 104 #[ptr bb, ptr bm] .returning w fun e u' w' => e = .returned (.tuple #[]) ∧ u' = .returning ∧ w' = w.drew.setCell ⟨p, 13, none⟩ before := by
  have p13 := h_cell hp 13 rfl
  have z13 := h_fz hp 13
  refine callsD_of_wpS Tryz.func104 rfl fun c₀ cs hu => ?_
  apply wpS_seq
  refine wpS_of_wp ?_
  simp only [Tryz.ntmps104, List.size_toArray, List.length_cons, List.length_nil, Nat.reduceAdd, Nat.reduceSub, Array.replicate_succ, Array.replicate_zero, List.push_toArray, List.append_toArray, List.nil_append, List.cons_append]
  have q1 := any_nnil
  clear hp
  rcases hb with rfl | ⟨ad, rfl⟩
  all_goals
    go_region
    simp only [Exit.thenS]
    apply wpS_seq
    apply wpS_region
    simp [wpOpsS, go_sem, recoverD, hu, q1]
    simp [go_sem, Exit.thenS]
    refine wpS_cond (t := false) (by simp [Act.eval]) ?_
    simp only [Bool.false_eq_true, if_false]
    refine wpS_of_wp (wp_skip ?_)
    exact ⟨rfl, _, rfl, .tuple #[], by simp [results, Tryz.results104], rfl, hu, rfl⟩

/-- What is left of goOn behind main's end. -/
theorem goOn_left {w u : World} {p kn tb kin : Nat} {args env box : Value} {cwd : ByteArray} {l1 l2 l3 held peak : Int} {isChild : Bool} {m : Nat} {S : List Nat} {R : World → Prop}
    (hS : ∀ b ∈ S, b < w.heap.size ∨ w.heap.size + 1 < b) (hp : PrAt u p kn tb args env cwd l1 l2 l3 held peak box kin isChild (ptr m)) (m0 : u.cell? ⟨m, 0, none⟩ = some (ptr p)) (hT : Turn S (GoW w p m (.pointer none)).drew u)
    (hR : R (u.drew.setCell ⟨p, 13, none⟩ (.pointer none))) (a' : Act) (ha : a'.defers = goD w) :
    bodyPostD Tryz.prog Tryz.f75 (fun e w' => e = .returned (.tuple #[]) ∧ R w') .normal a' u := by
  have b1 : u.cell? ⟨w.heap.size + 1, 0, none⟩ = some (.pointer none) := hT.cell (goW_box w p m (.pointer none)).1 (fun h => by have h2 : w.heap.size + 1 < w.heap.size ∨ w.heap.size + 1 < w.heap.size + 1 := hS _ h; omega)
  have b2 : u.cell? ⟨w.heap.size, 0, none⟩ = some (ptr m) := hT.cell (goW_box w p m (.pointer none)).2 (fun h => by have h2 : w.heap.size < w.heap.size ∨ w.heap.size + 1 < w.heap.size := hS _ h; omega)
  show Leaves _ _ a'.tmps _ a'.defers _ u
  rw [ha]
  refine leaves_cons (f := 104) (args := #[ptr (w.heap.size + 1), ptr w.heap.size]) (by simp) (by simp [go_sem]) ?_
  refine (catch_idle b1 b2 hp m0 (.inl rfl)).mono ?_
  rintro e u' w'' ⟨rfl, rfl, rfl⟩
  simp [Leaves, settle, results, Tryz.results75, go_sem]
  exact hR

/-- The process ahead of its last going on: as PB, but that nobody runs. -/
structure PR (G : Gh) (w : World) (told : Int) (k : KC) (held peak steps : Int) (rv v1 v2 : Value) : Prop where
  pr : PrAt w G.p G.kn G.tb G.args G.env G.cwd G.l1 G.l2 G.l3 held peak G.box G.kin G.isChild (.pointer none)
  mc : McAt w G.m G.p G.main (.slice (some ⟨G.pg, 0, none⟩) 1 G.pc) told .nilFunc true steps false 0
  past : w.ownsRow 0 148 1 (.slice (some ⟨G.pg, 0, none⟩) 1 G.pc) 1 [ptr G.an]
  an : AnAt w G.an G.ans.num G.ansv G.ans.err
  anb : ByAt w G.ansv G.ans.bytes
  anl : G.ans.bytes.length ≤ 1073741824
  abk : ∀ b off n c, G.ansv = .slice (some ⟨b, off, none⟩) n c → b = G.ab
  act : ∃ ka, KI G w ka rv v1 v2 ∧ execS G.faults k G.first = (G.ans, ka)
  base : G.base ≤ w.heap.size
  stat : ∀ b ∈ stats G, b < G.base
  nab : v1.ownBlock ≠ some G.ab ∧ v2.ownBlock ≠ some G.ab
  fm : G.fb ≠ G.m ∧ G.rb ≠ G.m ∧ G.fb ≠ G.p ∧ G.rb ≠ G.p ∧ G.ab ≠ G.m ∧ G.ab ≠ G.p ∧ G.ab ≠ G.kn ∧ G.ab ≠ G.so ∧ G.ab ≠ G.s1 ∧ G.ab ≠ G.s2
theorem PR.goes {G : Gh} {w : World} {told : Int} {k : KC} {held peak steps : Int} {rv v1 v2 : Value} (h : PR G w told k held peak steps rv v1 v2) : PB G (GoW w G.p G.m (.pointer none)).drew true k held peak steps rv v1 v2 := by
  obtain ⟨ka, hk, he⟩ := h.act
  have hT : Turn [G.m, G.p] w (GoW w G.p G.m (.pointer none)).drew := goW_turn.drew
  have n1 : G.m ≠ G.kn := h_ne h.mc hk.kn (by decide)
  have n2 : G.m ≠ G.so := h_ne h.mc hk.so (by decide)
  have n3 : G.m ≠ G.s1 := h_ne h.mc hk.k1 (by decide)
  have n4 : G.m ≠ G.s2 := h_ne h.mc hk.k2 (by decide)
  have n5 : G.m ≠ G.tb := h_ne h.mc hk.tb (by decide)
  have p1 : G.p ≠ G.kn := h_ne h.pr hk.kn (by decide)
  have p2 : G.p ≠ G.so := h_ne h.pr hk.so (by decide)
  have p3 : G.p ≠ G.s1 := h_ne h.pr hk.k1 (by decide)
  have p4 : G.p ≠ G.s2 := h_ne h.pr hk.k2 (by decide)
  have p5 : G.p ≠ G.tb := h_ne h.pr hk.tb (by decide)
  have a1 : G.an ≠ G.m := h_ne h.an h.mc (by decide)
  have a2 : G.an ≠ G.p := h_ne h.an h.pr (by decide)
  have g1 : G.pg ≠ G.m := fun e => row_ne h.past h.mc (by decide) (by rw [← e]; rfl)
  have g2 : G.pg ≠ G.p := fun e => row_ne h.past h.pr (by decide) (by rw [← e]; rfl)
  have r1 := row_ne hk.o1 h.mc (by decide)
  have r2 := row_ne hk.o2 h.mc (by decide)
  have r3 := row_ne hk.o1 h.pr (by decide)
  have r4 := row_ne hk.o2 h.pr (by decide)
  have hfm := h.fm
  exact { pr := goW_pr h.pr h.mc, mc := goW_mc h.pr h.mc, past := own_turn h.past hT (fun g hg e => (by have e1 : G.pg = g := by simpa [Value.ownBlock] using hg
                                                                                                        simp at e; omega)), an := hT.ob h.an (by simp; exact ⟨a1, a2⟩), anb := h.anb.turn hT (fun b off n c e => (by rw [h.abk b off n c e]; simp; exact ⟨hfm.2.2.2.2.1, hfm.2.2.2.2.2.1⟩)), anl := h.anl, abk := h.abk, act := ⟨ka, hk.keep hT (fun b hb => (by
            have hb : b = G.m ∨ b = G.p := by simpa using hb
            rcases hb with rfl | rfl
            · exact ⟨n1, n2, n3, n4, n5, hfm.1.symm, hfm.2.1.symm, r1, r2⟩
            · exact ⟨p1, p2, p3, p4, p5, hfm.2.2.1.symm, hfm.2.2.2.1.symm, r3, r4⟩)), fun _ => he, fun e => (by cases e)⟩, base := Nat.le_trans h.base hT.size, stat := h.stat, nab := h.nab, fm := h.fm }

/-- The process behind its end. -/
structure Fin (G : Gh) (w : World) (k : KC) (held peak steps st : Int) (rv v1 v2 : Value) : Prop where
  pr : PrAt w G.p G.kn G.tb G.args G.env G.cwd G.l1 G.l2 G.l3 held peak G.box G.kin G.isChild (.pointer none)
  mc : McAt w G.m G.p .nilFunc (.slice none 0 0) 1 .nilFunc true steps true st
  kn : KnAt w G.kn G.tr G.fv k.used G.now G.th G.last
  fs : FS G w (tabI G 3) 0 0 0 rv v1 v2
  o1 : w.ownsRow 0 5 1 v1 k.out.length (u8s k.out)
  o2 : w.ownsRow 0 5 1 v2 k.err.length (u8s k.err)
end Go.Proofs.YteimilnecahifaaGreatDoor

namespace Go.Proofs.YteimilnecahifaaGreatDoor
open Go.RowKit Go.Shelf Go.Maps

theorem PR.privs {G : Gh} {w : World} {told : Int} {k : KC} {held peak steps : Int} {rv v1 v2 : Value} (h : PR G w told k held peak steps rv v1 v2) {b : Nat} (hb : b ∈ privL G v1 v2) : b < w.heap.size := by
  obtain ⟨ka, hk, _⟩ := h.act
  rcases mem_privL.1 hb with rfl | rfl | rfl | rfl | rfl | rfl | e | e
  · exact h_lt h.pr
  · exact h_lt h.mc
  · exact h_lt hk.kn
  · exact h_lt hk.so
  · exact h_lt hk.k1
  · exact h_lt hk.k2
  · exact own_lt hk.o1 e
  · exact own_lt hk.o2 e
theorem PR.farP {G : Gh} {w : World} {told : Int} {k : KC} {held peak steps : Int} {rv v1 v2 : Value} (h : PR G w told k held peak steps rv v1 v2) (hb : w.heap.size ∈ privL G v1 v2) : False := by
  have := h.privs hb
  omega

end Go.Proofs.YteimilnecahifaaGreatDoor
