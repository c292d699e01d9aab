/- Proc.Write to the descriptor 1, whether the answer is told again or the call is done at once. -/
import Derived.Test.YtfkoehfkiommpaaGreatDoorMReadB
import Derived.Test.YtfkoehfkiommpaaGreatDoorPWrite
namespace Go.Proofs.YtfkoehfkiommpaaGreatDoor
open Go.RowKit Go.Shelf Go.Maps
section
variable {G : Gh} {w : World} {k : KC} {held peak steps : Int} {rv v1 v2 : Value}

structure WrQ1 (G : Gh) (w : World) (k : KC) (rv v1 v2 : Value) (bs : List UInt8) (a : Nat) (u : World) (v' : Value) : Prop where
  an : AnAt u a (writeS G.faults k false bs).1.num (.slice none 0 0) (writeS G.faults k false bs).1.err
  ki : KI G u (writeS G.faults k false bs).2 rv v' v2
  at' : ∀ b, v'.ownBlock = some b → v1.ownBlock = some b ∨ w.heap.size ≤ b
  turn : Turn (G.m :: G.kn :: G.s1 :: v1.ownBlock.toList) w u
theorem ask_write1 (h : PB G w false k held peak steps rv v1 v2) (bs : List UInt8) (hb0 : bs ≠ []) (hL : bs.length ≤ 1048576) (hO : k.out.length ≤ 549755813888) (h0 : 0 ≤ steps) (h1 : steps < 4611686018427387904) {W : World} {a b c : Nat} {kv : Value} (hX : Turn [] w W) (x1 : W.cell? ⟨a, 0, none⟩ = some (ptr G.p)) (x2 : W.cell? ⟨b, 0, none⟩ = some (.int .i64 1)) (x3 : W.cell? ⟨c, 0, none⟩ = some kv) (ha : w.heap.size ≤ a) (hb : w.heap.size ≤ b) (hc : w.heap.size ≤ c) (hkv : W.ownsRow w.heap.size 5 1 kv bs.length (u8s bs)) :
    Calls Tryz.prog 265 #[ptr G.p, .func (.func 266) #[] #[ptr a, ptr b, ptr c]] W fun e w' => ∃ an q' u', e = .returned (ptr an) ∧ (∃ v', WrQ1 G w k rv v1 v2 bs an u' v') ∧ McAt u' G.m G.p G.main (.slice (some ⟨G.pg, 0, none⟩) 1 G.pc) 1 .nilFunc true (steps + 1) false 0 ∧ w' = u'.drewN q' := by
  obtain ⟨n1, n2, n3, n4, n5, n6, n7, n8, n9, n10, n11, n12, n13, n14, n15, n16⟩ := h.nem
  have hfm := h.fm
  have hlt := h.lts
  have hbs := h.base
  obtain ⟨ka, hk, _, he⟩ := h.act
  obtain rfl := he rfl
  refine pask_once (hX.ob h.pr (by simp)) (hX.ob h.mc (by simp)) (by decide) h0 h1 (cf_write _) ?_
  intro u hu hTu
  have hTw : Turn [G.m] w u := (hX.mono (by simp)).trans hTu
  have hku : KI G u ka rv v1 v2 := hk.keep hTw (by
    intro b hb
    have e : b = G.m := by simpa using hb
    subst e
    exact ⟨n2, n4, n5, n6, n3, hfm.1.symm, hfm.2.1.symm, n7, n8⟩)
  have hku2 : u.ownsRow w.heap.size 5 1 kv bs.length (u8s bs) := own_turn hkv hTu (fun g hg e => by have := own_ge hkv hg; simp at e; omega)
  have hsz := hTw.size
  refine (write1_k1 hku kv bs (by_own hku2) hb0 hL hO (fun b off n c e => ?_) (hTw.cell h.tbc (by simpa using n1.symm)) (hTu.cell x1 (by simp; omega)) (hTu.cell x2 (by simp; omega)) (hTu.cell x3 (by simp; omega))).mono ?_
  · have hge : w.heap.size ≤ b := by
      rcases hkv.2 with ⟨e1, _⟩ | ⟨g, cap, cur, e1, hg, _⟩
      · rw [e1] at e; cases e
      · rw [e1] at e; cases e; exact hg
    omega
  rintro e u' ⟨an, v', rfl, ha, hge, hki, hat, hT⟩
  have herr := writeS_err G.faults ka false bs
  refine ⟨an, _, rfl, h_cell ha 10 rfl, by omega, by omega, hT.ob hu (by simp; exact ⟨n2, n5, n7⟩), v', ha, hki, ?_, (hTw.mono (by simp)).trans (hT.mono (fun x hx => by simp at hx ⊢; exact .inr hx))⟩
  intro x hx
  rcases hat with h1 | ⟨g, h1, h2⟩
  · exact .inl (h1.symm.trans hx)
  · rw [hx] at h1; cases h1; exact .inr (Nat.le_trans hsz h2)

set_option maxRecDepth 100000 in
set_option maxHeartbeats 4000000 in
theorem pwrite_once1 (h : PB G w false k held peak steps rv v1 v2) (b : Value) (bs : List UInt8) (hb : ByAt w b bs) (hb0 : bs ≠ []) (hL : bs.length ≤ 1048576) (hO : k.out.length ≤ 549755813888) (h0 : 0 ≤ steps) (h1 : steps < 4611686018427387904) :
    Calls Tryz.prog 243 #[ptr G.p, .int .i64 1, b] w fun e w' => ∃ v', e = .returned (.tuple #[.int .i64 (writeS G.faults k false bs).1.num, .int .i64 (writeS G.faults k false bs).1.err]) ∧ PB G w' false (writeS G.faults k false bs).2 held peak (steps + 1) rv v' v2 ∧ (∀ b, v'.ownBlock = some b → v1.ownBlock = some b ∨ w.heap.size ≤ b) ∧ Turn (G.m :: G.kn :: G.s1 :: v1.ownBlock.toList) w w' := by
  have hmf : ∀ (fn : Fn) (first cap : Array Value) (w : World), (Instr.makeFunc fn first cap).run Tryz.prog w = .ok (.func fn first cap) w := fun _ _ _ _ => rfl
  have hT0 : Turn [] w ((w.alloc (.cells #[ptr G.p] 115)).alloc (.cells #[.int .i64 1] 3)) := (Turn.alloc w _).trans (Turn.alloc _ _)
  have hr := pretold_none (hT0.ob h.pr (by simp)) (hT0.ob h.mc (by simp)) (by decide)
  have q1 := an_nil
  have HH := Lib.hid h
  have hask := fun (W : World) (a c : Nat) kv hX x1 x2 x3 ha hbb hc hkv => ask_write1 h bs hb0 hL hO h0 h1 (W := W) (a := a) (b := w.heap.size + 1) (c := c) (kv := kv) hX x1 x2 x3 ha hbb hc hkv
  have HASK := Lib.hid hask
  obtain ⟨xb, cb, rfl⟩ := hb.shape
  have HB := Lib.hid hb
  clear h hask hb
  go_enter Tryz.func243, Tryz.ntmps243
  go_wp2_with (go_at_call 264; refine hr.mono ?_; rintro e w' ⟨rfl, q, hw'⟩; rw [hw']; clear hw')
  have hTX : Turn [] w (((w.alloc (.cells #[ptr G.p] 115)).alloc (.cells #[.int .i64 1] 3)).drewN q) := hT0.drewN q
  have x1 : (((w.alloc (.cells #[ptr G.p] 115)).alloc (.cells #[.int .i64 1] 3)).drewN q).cell? ⟨w.heap.size, 0, none⟩ = some (ptr G.p) := al_cell _ (World.cell?_alloc_new w #[ptr G.p] 115 0)
  have x2 : (((w.alloc (.cells #[ptr G.p] 115)).alloc (.cells #[.int .i64 1] 3)).drewN q).cell? ⟨w.heap.size + 1, 0, none⟩ = some (.int .i64 1) := by
    have := World.cell?_alloc_new (w.alloc (.cells #[ptr G.p] 115)) #[.int .i64 1] 3 0
    have e : (w.alloc (.cells #[ptr G.p] 115)).heap.size = w.heap.size + 1 := by simp
    rw [e] at this; exact this
  have hsz : (((w.alloc (.cells #[ptr G.p] 115)).alloc (.cells #[.int .i64 1] 3)).drewN q).heap.size = w.heap.size + 2 := by simp
  generalize ((w.alloc (.cells #[ptr G.p] 115)).alloc (.cells #[.int .i64 1] 3)).drewN q = X at hTX x1 x2 hsz ⊢
  refine (bclone_by _ bs X hL (HB.out.turn hTX (by simp))).mono ?_
  rintro e w2 ⟨kv, rfl, hkv, hb2⟩
  have hT2 : Turn [] w w2 := hTX.trans (Turn.below hb2)
  have s2 := hb2.size
  have y1 := (Turn.below (S := []) hb2).cell x1 (by simp)
  have y2 := (Turn.below (S := []) hb2).cell x2 (by simp)
  obtain ⟨xk, ck, rfl⟩ := own_shape hkv
  have hT3 : Turn [] w2 (w2.alloc (.cells #[.slice xk bs.length ck] 23)) := Turn.alloc w2 _
  have y3b : (w2.alloc (.cells #[.slice xk bs.length ck] 23)).cell? ⟨w2.heap.size, 0, none⟩ = some (.slice xk bs.length ck) := World.cell?_alloc_new w2 #[.slice xk bs.length ck] 23 0
  have ha := HASK.out (w2.alloc (.cells #[.slice xk bs.length ck] 23)) w.heap.size w2.heap.size _ (hT2.trans hT3) (hT3.cell y1 (by simp)) (hT3.cell y2 (by simp)) y3b (Nat.le_refl _) (Nat.le_succ _) hT2.size (own_less0 (own_turn hkv hT3 (by simp)) (by omega))
  have y1b := hT3.cell y1 (by simp)
  clear hr hT0 hTX x1 x2 hkv hb2 hT3 HASK HB y1
  go_wp2_with (go_at_call 265; refine ha.mono ?_; rintro e w' ⟨an, q', u, rfl, ⟨v', hQ⟩, hM, hw'⟩; rw [hw']; clear hw')
  obtain ⟨hA, hki, hat, hTu⟩ := hQ
  have hA' : AnAt (u.drewN q') an (writeS G.faults k false bs).1.num (.slice none 0 0) (writeS G.faults k false bs).1.err := hA
  have hki' : KI G (u.drewN q') (writeS G.faults k false bs).2 rv v' v2 := hki.keep (S := []) ((Turn.refl [] u).drewN q') (by simp)
  have hM' : McAt (u.drewN q') G.m G.p G.main (.slice (some ⟨G.pg, 0, none⟩) 1 G.pc) 1 .nilFunc true (steps + 1) false 0 := hM
  have hTu' : Turn (G.m :: G.kn :: G.s1 :: v1.ownBlock.toList) w (u.drewN q') := hTu.drewN q'
  generalize u.drewN q' = U at hA' hki' hM' hTu' ⊢
  have d0 := h_cell hA' 0 rfl
  have d9 := h_cell hA' 10 rfl
  have HP := Lib.hid (And.intro hki' (And.intro hM' (And.intro hTu' hat)))
  clear hA hki hM hTu hA' hki' hM' hTu' hat ha
  generalize hAe : writeS G.faults k false bs = A at *
  have HAe := Lib.hid hAe
  clear hAe
  go_quiet (fail)
  go_wp2
  go_ret2
  have eA := HAe.out
  subst eA
  obtain ⟨hki, hM, hTu, hat⟩ := HP.out
  have hT4 : Turn (G.m :: G.kn :: G.s1 :: v1.ownBlock.toList) w (U.drewN nq) := hTu.drewN nq
  exact ⟨v', rfl, HH.out.next hT4 (fun b hb => by simp at hb; rcases hb with h | h | h | h <;> simp [h]) hM (hki.keep (S := []) ((Turn.refl [] U).drewN nq) (by simp)) hat (fun b h => .inl h), hat, hT4⟩

/-- A Write of the descriptor 1. -/
theorem pwrite_B1 {fresh : Bool} (h : PB G w fresh k held peak steps rv v1 v2) (b : Value) (bs : List UInt8) (hb : ByAt w b bs) (hb0 : bs ≠ []) (hL : bs.length ≤ 1048576) (hO : k.out.length ≤ 549755813888) (hf : fresh = true → G.first = .write false bs) (h0 : 0 ≤ steps) (h1 : steps < 4611686018427387904) :
    Calls Tryz.prog 243 #[ptr G.p, .int .i64 1, b] w fun e w' => ∃ v', e = .returned (.tuple #[.int .i64 (writeS G.faults k false bs).1.num, .int .i64 (writeS G.faults k false bs).1.err]) ∧ PB G w' false (writeS G.faults k false bs).2 held peak (steps + if fresh then 0 else 1) rv v' v2 ∧ (∀ b, v'.ownBlock = some b → v1.ownBlock = some b ∨ w.heap.size ≤ b) ∧ Turn (G.m :: G.kn :: G.s1 :: v1.ownBlock.toList) w w' := by
  cases fresh with
  | false => exact pwrite_once1 h b bs hb hb0 hL hO h0 h1
  | true =>
    obtain ⟨ka, hk, he, _⟩ := h.act
    have he := he rfl
    rw [hf rfl, execS_write] at he
    rw [he]
    have hnem := h.nem
    have hfm := h.fm
    refine (pwrite_told (fd := 1) (b := b) h.pr h.mc (by decide) (by decide) h.pcell hnem.2.2.2.2.2.2.2.2.1 hnem.2.2.2.2.2.2.2.2.2.1 (h_cell h.an 0 rfl) (h_cell h.an 10 rfl)).mono ?_
    rintro e w' ⟨rfl, hM, hT⟩
    have hkw : KI G w' ka rv v1 v2 := hk.keep hT (by
      intro b hb
      have e : b = G.m := by simpa using hb
      subst e
      exact ⟨hnem.2.1, hnem.2.2.2.1, hnem.2.2.2.2.1, hnem.2.2.2.2.2.1, hnem.2.2.1, hfm.1.symm, hfm.2.1.symm, hnem.2.2.2.2.2.2.1, hnem.2.2.2.2.2.2.2.1⟩)
    refine ⟨v1, rfl, ?_, fun b h => .inl h, hT.mono (by simp)⟩
    have := h.next hT (fun b hb => by simp at hb; simp [hb]) (by simpa using hM) hkw (fun b h => .inl h) (fun b h => .inl h)
    simpa using this
end
end Go.Proofs.YtfkoehfkiommpaaGreatDoor

namespace Go.Proofs.YtfkoehfkiommpaaGreatDoor
open Go.RowKit Go.Shelf Go.Maps
section
variable {G : Gh} {w : World} {k : KC} {held peak steps : Int} {rv v1 v2 : Value}

structure WrQ2 (G : Gh) (w : World) (k : KC) (rv v1 v2 : Value) (bs : List UInt8) (a : Nat) (u : World) (v' : Value) : Prop where
  an : AnAt u a (writeS G.faults k true bs).1.num (.slice none 0 0) (writeS G.faults k true bs).1.err
  ki : KI G u (writeS G.faults k true bs).2 rv v1 v'
  at' : ∀ b, v'.ownBlock = some b → v2.ownBlock = some b ∨ w.heap.size ≤ b
  turn : Turn (G.m :: G.kn :: G.s2 :: v2.ownBlock.toList) w u
theorem ask_write2 (h : PB G w false k held peak steps rv v1 v2) (bs : List UInt8) (hb0 : bs ≠ []) (hL : bs.length ≤ 1048576) (hO : k.err.length ≤ 549755813888) (h0 : 0 ≤ steps) (h1 : steps < 4611686018427387904) {W : World} {a b c : Nat} {kv : Value} (hX : Turn [] w W) (x1 : W.cell? ⟨a, 0, none⟩ = some (ptr G.p)) (x2 : W.cell? ⟨b, 0, none⟩ = some (.int .i64 2)) (x3 : W.cell? ⟨c, 0, none⟩ = some kv) (ha : w.heap.size ≤ a) (hb : w.heap.size ≤ b) (hc : w.heap.size ≤ c) (hkv : W.ownsRow w.heap.size 5 1 kv bs.length (u8s bs)) :
    Calls Tryz.prog 265 #[ptr G.p, .func (.func 266) #[] #[ptr a, ptr b, ptr c]] W fun e w' => ∃ an q' u', e = .returned (ptr an) ∧ (∃ v', WrQ2 G w k rv v1 v2 bs an u' v') ∧ McAt u' G.m G.p G.main (.slice (some ⟨G.pg, 0, none⟩) 1 G.pc) 1 .nilFunc true (steps + 1) false 0 ∧ w' = u'.drewN q' := by
  obtain ⟨n1, n2, n3, n4, n5, n6, n7, n8, n9, n10, n11, n12, n13, n14, n15, n16⟩ := h.nem
  have hfm := h.fm
  have hlt := h.lts
  have hbs := h.base
  obtain ⟨ka, hk, _, he⟩ := h.act
  obtain rfl := he rfl
  refine pask_once (hX.ob h.pr (by simp)) (hX.ob h.mc (by simp)) (by decide) h0 h1 (cf_write _) ?_
  intro u hu hTu
  have hTw : Turn [G.m] w u := (hX.mono (by simp)).trans hTu
  have hku : KI G u ka rv v1 v2 := hk.keep hTw (by
    intro b hb
    have e : b = G.m := by simpa using hb
    subst e
    exact ⟨n2, n4, n5, n6, n3, hfm.1.symm, hfm.2.1.symm, n7, n8⟩)
  have hku2 : u.ownsRow w.heap.size 5 1 kv bs.length (u8s bs) := own_turn hkv hTu (fun g hg e => by have := own_ge hkv hg; simp at e; omega)
  have hsz := hTw.size
  refine (write1_k2 hku kv bs (by_own hku2) hb0 hL hO (fun b off n c e => ?_) (hTw.cell h.tbc (by simpa using n1.symm)) (hTu.cell x1 (by simp; omega)) (hTu.cell x2 (by simp; omega)) (hTu.cell x3 (by simp; omega))).mono ?_
  · have hge : w.heap.size ≤ b := by
      rcases hkv.2 with ⟨e1, _⟩ | ⟨g, cap, cur, e1, hg, _⟩
      · rw [e1] at e; cases e
      · rw [e1] at e; cases e; exact hg
    omega
  rintro e u' ⟨an, v', rfl, ha, hge, hki, hat, hT⟩
  have herr := writeS_err G.faults ka true bs
  refine ⟨an, _, rfl, h_cell ha 10 rfl, by omega, by omega, hT.ob hu (by simp; exact ⟨n2, n6, n8⟩), v', ha, hki, ?_, (hTw.mono (by simp)).trans (hT.mono (fun x hx => by simp at hx ⊢; exact .inr hx))⟩
  intro x hx
  rcases hat with h1 | ⟨g, h1, h2⟩
  · exact .inl (h1.symm.trans hx)
  · rw [hx] at h1; cases h1; exact .inr (Nat.le_trans hsz h2)

set_option maxRecDepth 100000 in
set_option maxHeartbeats 4000000 in
theorem pwrite_once2 (h : PB G w false k held peak steps rv v1 v2) (b : Value) (bs : List UInt8) (hb : ByAt w b bs) (hb0 : bs ≠ []) (hL : bs.length ≤ 1048576) (hO : k.err.length ≤ 549755813888) (h0 : 0 ≤ steps) (h1 : steps < 4611686018427387904) :
    Calls Tryz.prog 243 #[ptr G.p, .int .i64 2, b] w fun e w' => ∃ v', e = .returned (.tuple #[.int .i64 (writeS G.faults k true bs).1.num, .int .i64 (writeS G.faults k true bs).1.err]) ∧ PB G w' false (writeS G.faults k true bs).2 held peak (steps + 1) rv v1 v' ∧ (∀ b, v'.ownBlock = some b → v2.ownBlock = some b ∨ w.heap.size ≤ b) ∧ Turn (G.m :: G.kn :: G.s2 :: v2.ownBlock.toList) w w' := by
  have hmf : ∀ (fn : Fn) (first cap : Array Value) (w : World), (Instr.makeFunc fn first cap).run Tryz.prog w = .ok (.func fn first cap) w := fun _ _ _ _ => rfl
  have hT0 : Turn [] w ((w.alloc (.cells #[ptr G.p] 115)).alloc (.cells #[.int .i64 2] 3)) := (Turn.alloc w _).trans (Turn.alloc _ _)
  have hr := pretold_none (hT0.ob h.pr (by simp)) (hT0.ob h.mc (by simp)) (by decide)
  have q1 := an_nil
  have HH := Lib.hid h
  have hask := fun (W : World) (a c : Nat) kv hX x1 x2 x3 ha hbb hc hkv => ask_write2 h bs hb0 hL hO h0 h1 (W := W) (a := a) (b := w.heap.size + 1) (c := c) (kv := kv) hX x1 x2 x3 ha hbb hc hkv
  have HASK := Lib.hid hask
  obtain ⟨xb, cb, rfl⟩ := hb.shape
  have HB := Lib.hid hb
  clear h hask hb
  go_enter Tryz.func243, Tryz.ntmps243
  go_wp2_with (go_at_call 264; refine hr.mono ?_; rintro e w' ⟨rfl, q, hw'⟩; rw [hw']; clear hw')
  have hTX : Turn [] w (((w.alloc (.cells #[ptr G.p] 115)).alloc (.cells #[.int .i64 2] 3)).drewN q) := hT0.drewN q
  have x1 : (((w.alloc (.cells #[ptr G.p] 115)).alloc (.cells #[.int .i64 2] 3)).drewN q).cell? ⟨w.heap.size, 0, none⟩ = some (ptr G.p) := al_cell _ (World.cell?_alloc_new w #[ptr G.p] 115 0)
  have x2 : (((w.alloc (.cells #[ptr G.p] 115)).alloc (.cells #[.int .i64 2] 3)).drewN q).cell? ⟨w.heap.size + 1, 0, none⟩ = some (.int .i64 2) := by
    have := World.cell?_alloc_new (w.alloc (.cells #[ptr G.p] 115)) #[.int .i64 2] 3 0
    have e : (w.alloc (.cells #[ptr G.p] 115)).heap.size = w.heap.size + 1 := by simp
    rw [e] at this; exact this
  have hsz : (((w.alloc (.cells #[ptr G.p] 115)).alloc (.cells #[.int .i64 2] 3)).drewN q).heap.size = w.heap.size + 2 := by simp
  generalize ((w.alloc (.cells #[ptr G.p] 115)).alloc (.cells #[.int .i64 2] 3)).drewN q = X at hTX x1 x2 hsz ⊢
  refine (bclone_by _ bs X hL (HB.out.turn hTX (by simp))).mono ?_
  rintro e w2 ⟨kv, rfl, hkv, hb2⟩
  have hT2 : Turn [] w w2 := hTX.trans (Turn.below hb2)
  have s2 := hb2.size
  have y1 := (Turn.below (S := []) hb2).cell x1 (by simp)
  have y2 := (Turn.below (S := []) hb2).cell x2 (by simp)
  obtain ⟨xk, ck, rfl⟩ := own_shape hkv
  have hT3 : Turn [] w2 (w2.alloc (.cells #[.slice xk bs.length ck] 23)) := Turn.alloc w2 _
  have y3b : (w2.alloc (.cells #[.slice xk bs.length ck] 23)).cell? ⟨w2.heap.size, 0, none⟩ = some (.slice xk bs.length ck) := World.cell?_alloc_new w2 #[.slice xk bs.length ck] 23 0
  have ha := HASK.out (w2.alloc (.cells #[.slice xk bs.length ck] 23)) w.heap.size w2.heap.size _ (hT2.trans hT3) (hT3.cell y1 (by simp)) (hT3.cell y2 (by simp)) y3b (Nat.le_refl _) (Nat.le_succ _) hT2.size (own_less0 (own_turn hkv hT3 (by simp)) (by omega))
  have y1b := hT3.cell y1 (by simp)
  clear hr hT0 hTX x1 x2 hkv hb2 hT3 HASK HB y1
  go_wp2_with (go_at_call 265; refine ha.mono ?_; rintro e w' ⟨an, q', u, rfl, ⟨v', hQ⟩, hM, hw'⟩; rw [hw']; clear hw')
  obtain ⟨hA, hki, hat, hTu⟩ := hQ
  have hA' : AnAt (u.drewN q') an (writeS G.faults k true bs).1.num (.slice none 0 0) (writeS G.faults k true bs).1.err := hA
  have hki' : KI G (u.drewN q') (writeS G.faults k true bs).2 rv v1 v' := hki.keep (S := []) ((Turn.refl [] u).drewN q') (by simp)
  have hM' : McAt (u.drewN q') G.m G.p G.main (.slice (some ⟨G.pg, 0, none⟩) 1 G.pc) 1 .nilFunc true (steps + 1) false 0 := hM
  have hTu' : Turn (G.m :: G.kn :: G.s2 :: v2.ownBlock.toList) w (u.drewN q') := hTu.drewN q'
  generalize u.drewN q' = U at hA' hki' hM' hTu' ⊢
  have d0 := h_cell hA' 0 rfl
  have d9 := h_cell hA' 10 rfl
  have HP := Lib.hid (And.intro hki' (And.intro hM' (And.intro hTu' hat)))
  clear hA hki hM hTu hA' hki' hM' hTu' hat ha
  generalize hAe : writeS G.faults k true bs = A at *
  have HAe := Lib.hid hAe
  clear hAe
  go_quiet (fail)
  go_wp2
  go_ret2
  have eA := HAe.out
  subst eA
  obtain ⟨hki, hM, hTu, hat⟩ := HP.out
  have hT4 : Turn (G.m :: G.kn :: G.s2 :: v2.ownBlock.toList) w (U.drewN nq) := hTu.drewN nq
  exact ⟨v', rfl, HH.out.next hT4 (fun b hb => by simp at hb; rcases hb with h | h | h | h <;> simp [h]) hM (hki.keep (S := []) ((Turn.refl [] U).drewN nq) (by simp)) (fun b h => .inl h) hat, hat, hT4⟩

/-- A Write of the descriptor 2. -/
theorem pwrite_B2 {fresh : Bool} (h : PB G w fresh k held peak steps rv v1 v2) (b : Value) (bs : List UInt8) (hb : ByAt w b bs) (hb0 : bs ≠ []) (hL : bs.length ≤ 1048576) (hO : k.err.length ≤ 549755813888) (hf : fresh = true → G.first = .write true bs) (h0 : 0 ≤ steps) (h1 : steps < 4611686018427387904) :
    Calls Tryz.prog 243 #[ptr G.p, .int .i64 2, b] w fun e w' => ∃ v', e = .returned (.tuple #[.int .i64 (writeS G.faults k true bs).1.num, .int .i64 (writeS G.faults k true bs).1.err]) ∧ PB G w' false (writeS G.faults k true bs).2 held peak (steps + if fresh then 0 else 1) rv v1 v' ∧ (∀ b, v'.ownBlock = some b → v2.ownBlock = some b ∨ w.heap.size ≤ b) ∧ Turn (G.m :: G.kn :: G.s2 :: v2.ownBlock.toList) w w' := by
  cases fresh with
  | false => exact pwrite_once2 h b bs hb hb0 hL hO h0 h1
  | true =>
    obtain ⟨ka, hk, he, _⟩ := h.act
    have he := he rfl
    rw [hf rfl, execS_write] at he
    rw [he]
    have hnem := h.nem
    have hfm := h.fm
    refine (pwrite_told (fd := 2) (b := b) h.pr h.mc (by decide) (by decide) h.pcell hnem.2.2.2.2.2.2.2.2.1 hnem.2.2.2.2.2.2.2.2.2.1 (h_cell h.an 0 rfl) (h_cell h.an 10 rfl)).mono ?_
    rintro e w' ⟨rfl, hM, hT⟩
    have hkw : KI G w' ka rv v1 v2 := hk.keep hT (by
      intro b hb
      have e : b = G.m := by simpa using hb
      subst e
      exact ⟨hnem.2.1, hnem.2.2.2.1, hnem.2.2.2.2.1, hnem.2.2.2.2.2.1, hnem.2.2.1, hfm.1.symm, hfm.2.1.symm, hnem.2.2.2.2.2.2.1, hnem.2.2.2.2.2.2.2.1⟩)
    refine ⟨v2, rfl, ?_, fun b h => .inl h, hT.mono (by simp)⟩
    have := h.next hT (fun b hb => by simp at hb; simp [hb]) (by simpa using hM) hkw (fun b h => .inl h) (fun b h => .inl h)
    simpa using this
end
end Go.Proofs.YtfkoehfkiommpaaGreatDoor

namespace Go.Proofs.YtfkoehfkiommpaaGreatDoor
open Go.RowKit Go.Maps

theorem mcp_eq (a : Addr) (w : World) : (binOp .eql 125 (.pointer (some a)) (.pointer none)).run Tryz.prog w = .ok (.bool false) w := by kernel_rfl
section
variable {w : World} {p kn tb kin : Nat} {args env box : Value} {cwd : ByteArray} {l1 l2 l3 held peak : Int} {isChild : Bool} {m : Nat} {main : Value} {steps status : Int} {once : Bool} {x : Option Addr} {c n : Nat} {told : Int}
set_option maxRecDepth 100000 in
set_option maxHeartbeats 4000000 in
theorem counts_no (hp : PrAt w p kn tb args env cwd l1 l2 l3 held peak box kin isChild (ptr m)) (h : McAt w m p main (.slice x n c) told .nilFunc once steps false status) (hd : decide ((n : Int) ≤ told) = false) :
    Calls Tryz.prog 261 #[ptr p] w fun e w' => e = .returned (.bool false) ∧ ∃ q, w' = w.drewN q := by
  have c13 := h_cell hp 13 rfl
  have m2 := h_cell h 2 rfl
  have m3 := h_cell h 3 rfl
  have q1 := mcp_eq
  clear h hp
  go_enter Tryz.func261, Tryz.ntmps261
  go_wp2_with fail
  go_quiet (fail)
  go_wp2
  go_ret
  exact ⟨rfl, _, rfl⟩
set_option maxRecDepth 100000 in
set_option maxHeartbeats 4000000 in
theorem counts_yes (hp : PrAt w p kn tb args env cwd l1 l2 l3 held peak box kin isChild (ptr m)) (h : McAt w m p main (.slice x n c) told .nilFunc once steps false status) (hd : decide ((n : Int) ≤ told) = true) :
    Calls Tryz.prog 261 #[ptr p] w fun e w' => e = .returned (.bool true) ∧ ∃ q, w' = w.drewN q := by
  have c13 := h_cell hp 13 rfl
  have m2 := h_cell h 2 rfl
  have m3 := h_cell h 3 rfl
  have hl : Calls Tryz.prog 135 #[ptr m] w.drew fun e w' => e = .returned (.bool false) ∧ w' = w.drew := isLeft_goes (w := w.drew) h
  have q1 := mcp_eq
  clear h hp
  go_enter Tryz.func261, Tryz.ntmps261
  go_wp2_with fail
  go_region_with (go_at_call 135; refine hl.mono ?_; rintro e w' ⟨rfl, hw'⟩; rw [hw']; clear hw')
  all_goals
    try simp only [Act.put, List.getElem_toArray, List.getElem_cons_succ, List.getElem_cons_zero, List.setIfInBounds_toArray, List.set_cons_succ, List.set_cons_zero]
    go_wp2
    go_ret
    exact ⟨rfl, 1, rfl⟩
end
end Go.Proofs.YtfkoehfkiommpaaGreatDoor

namespace Go.Proofs.YtfkoehfkiommpaaGreatDoor
open Go.RowKit Go.Shelf Go.Maps

section
variable {w : World} {p kn tb kin : Nat} {args env box : Value} {cwd : ByteArray} {l1 l2 l3 held peak : Int} {isChild : Bool} {m : Nat} {main : Value} {steps status : Int} {once : Bool} {x : Option Addr} {c n : Nat} {told : Int}
set_option maxRecDepth 100000 in
set_option maxHeartbeats 4000000 in
theorem drop_no (hp : PrAt w p kn tb args env cwd l1 l2 l3 held peak box kin isChild (ptr m)) (h : McAt w m p main (.slice x n c) told .nilFunc once steps false status) (hd : decide ((n : Int) ≤ told) = false) (j : Int) (hj : 0 ≤ j) :
    Calls Tryz.prog 241 #[ptr p, .int .i64 j] w fun e w' => e = .returned (.tuple #[]) ∧ ∃ q, w' = w.drewN q := by
  have hc := counts_no hp h hd
  have hj' : ¬ j < 0 := by omega
  clear h hp
  go_enter Tryz.func241, Tryz.ntmps241
  go_wp2_with (go_at_call 261; refine hc.mono ?_; rintro e w' ⟨rfl, q, hw'⟩; rw [hw']; clear hw')
  refine bodyPost_ret (results_none rfl _ _ _) rfl ?_
  exact ⟨rfl, q, rfl⟩
set_option maxRecDepth 100000 in
set_option maxHeartbeats 4000000 in
theorem drop_yes (hp : PrAt w p kn tb args env cwd l1 l2 l3 held peak box kin isChild (ptr m)) (h : McAt w m p main (.slice x n c) told .nilFunc once steps false status) (hd : decide ((n : Int) ≤ told) = true) (j : Int) (hj : 0 ≤ j) (hh : 0 ≤ held) (hh2 : held ≤ 9223372036854775807) :
    Calls Tryz.prog 241 #[ptr p, .int .i64 j] w fun e w' => e = .returned (.tuple #[]) ∧ PrAt w' p kn tb args env cwd l1 l2 l3 (held - min j held) peak box kin isChild (ptr m) ∧ Turn [p] w w' := by
  have hc := counts_yes hp h hd
  have hj' : ¬ j < 0 := by omega
  obtain ⟨mn, hmn, hm1, hm2⟩ : ∃ mn, min j held = mn ∧ 0 ≤ mn ∧ mn ≤ held := ⟨_, rfl, by omega, by omega⟩
  rw [hmn]
  have hw1 : IntKind.i64.wrap (held - mn) = held - mn := IntWalk.i64_in _ (by omega)
  have HP : Hid (∀ q, PrAt (w.drewN q) p kn tb args env cwd l1 l2 l3 held peak box kin isChild (ptr m)) := fun q => hp
  have c6 : ∀ q, (w.drewN q).cell? ⟨p, 8, none⟩ = some (.int .i64 held) := fun q => h_cell (w := w.drewN q) hp 8 rfl
  have z6 : ∀ q, (w.drewN q).frozen? ⟨p, 8, none⟩ = false := fun q => h_fz (w := w.drewN q) hp 8
  clear h hp
  go_enter Tryz.func241, Tryz.ntmps241
  go_wp2_with (go_at_call 261; refine hc.mono ?_; rintro e w' ⟨rfl, q, hw'⟩; rw [hw']; clear hw')
  have d6 := c6 q
  have y6 := z6 q
  have HT := Lib.hid ((Turn.refl [p] w).drewN q)
  have HP2 := Lib.hid (HP.out q)
  clear c6 z6 HP hc
  generalize w.drewN q = U at d6 y6 HT HP2 ⊢
  go_region
  all_goals
    try simp only [Act.put, List.getElem_toArray, List.getElem_cons_succ, List.getElem_cons_zero, List.setIfInBounds_toArray, List.set_cons_succ, List.set_cons_zero]
    go_wp2
    go_end0
    have hs : PrAt (U.setCell ⟨p, 8, none⟩ (.int .i64 (held - mn))) p kn tb args env cwd l1 l2 l3 (held - mn) peak box kin isChild (ptr m) := by simpa using h_set HP2.out 8 (.int .i64 (held - mn))
    exact ⟨rfl, hs, HT.out.trans (Turn.set U p 8 _ (by simp)).drew⟩
set_option maxRecDepth 100000 in
set_option maxHeartbeats 4000000 in
theorem hold_yes (hp : PrAt w p kn tb args env cwd l1 l2 l3 held peak box kin isChild (ptr m)) (h : McAt w m p main (.slice x n c) told .nilFunc once steps false status) (hd : decide ((n : Int) ≤ told) = true) (j : Int) (hj : 0 ≤ j) (hh : 0 ≤ held) (hh2 : held + j ≤ 9223372036854775807) :
    Calls Tryz.prog 263 #[ptr p, .int .i64 j] w fun e w' => e = .returned (.tuple #[]) ∧ PrAt w' p kn tb args env cwd l1 l2 l3 (held + j) (max peak (held + j)) box kin isChild (ptr m) ∧ Turn [p] w w' := by
  have hc := counts_yes hp h hd
  have hj' : ¬ j < 0 := by omega
  have hw0 : IntKind.i64.wrap (9223372036854775807 - held) = 9223372036854775807 - held := IntWalk.i64_in _ (by omega)
  have hmn : min j (9223372036854775807 - held) = j := by omega
  have hw1 : IntKind.i64.wrap (held + j) = held + j := IntWalk.i64_in _ (by omega)
  have HP : Hid (∀ q, PrAt (w.drewN q) p kn tb args env cwd l1 l2 l3 held peak box kin isChild (ptr m)) := fun q => hp
  have c6 : ∀ q, (w.drewN q).cell? ⟨p, 8, none⟩ = some (.int .i64 held) := fun q => h_cell (w := w.drewN q) hp 8 rfl
  have z6 : ∀ q, (w.drewN q).frozen? ⟨p, 8, none⟩ = false := fun q => h_fz (w := w.drewN q) hp 8
  clear h hp
  go_enter Tryz.func263, Tryz.ntmps263
  go_wp2_with (go_at_call 261; refine hc.mono ?_; rintro e w' ⟨rfl, q, hw'⟩; rw [hw']; clear hw')
  have d6 := c6 q
  have y6 := z6 q
  have HT := Lib.hid ((Turn.refl [p] w).drewN q)
  have HP2 := Lib.hid (HP.out q)
  clear c6 z6 HP hc
  generalize w.drewN q = U at d6 y6 HT HP2 ⊢
  go_region
  all_goals
    try simp only [Act.put, List.getElem_toArray, List.getElem_cons_succ, List.getElem_cons_zero, List.setIfInBounds_toArray, List.set_cons_succ, List.set_cons_zero]
    go_wp2_with fail
    have hs0 : PrAt (U.setCell ⟨p, 8, none⟩ (.int .i64 (held + j))) p kn tb args env cwd l1 l2 l3 (held + j) peak box kin isChild (ptr m) := by simpa using h_set HP2.out 8 (.int .i64 (held + j))
    have hs : PrAt (U.setCell ⟨p, 8, none⟩ (.int .i64 (held + j))).drew p kn tb args env cwd l1 l2 l3 (held + j) peak box kin isChild (ptr m) := hs0
    clear hs0
    have hTs : Turn [p] w (U.setCell ⟨p, 8, none⟩ (.int .i64 (held + j))).drew := HT.out.trans (Turn.set U p 8 _ (by simp)).drew
    generalize (U.setCell ⟨p, 8, none⟩ (.int .i64 (held + j))).drew = V at hs hTs ⊢
    have f8 := h_cell hs 8 rfl
    have f9 := h_cell hs 9 rfl
    have g9 := h_fz hs 9
    have HS := Lib.hid hs
    have HTs := Lib.hid hTs
    clear hs hTs
    go_region
    all_goals
      try simp only [Act.put, List.getElem_toArray, List.getElem_cons_succ, List.getElem_cons_zero, List.setIfInBounds_toArray, List.set_cons_succ, List.set_cons_zero]
      go_wp2
      go_end0
      have hs2 : PrAt (V.setCell ⟨p, 9, none⟩ (.int .i64 (max peak (held + j)))) p kn tb args env cwd l1 l2 l3 (held + j) (max peak (held + j)) box kin isChild (ptr m) := by simpa using h_set HS.out 9 (.int .i64 (max peak (held + j)))
      exact ⟨rfl, hs2, HTs.out.trans (Turn.set V p 9 _ (by simp)).drew⟩
end

section
variable {G : Gh} {w : World} {fresh : Bool} {k : KC} {held peak steps : Int} {rv v1 v2 : Value}
theorem PB.sets (h : PB G w fresh k held peak steps rv v1 v2) {w' : World} {held' peak' : Int} (hT : Turn [G.p] w w') (hp : PrAt w' G.p G.kn G.tb G.args G.env G.cwd G.l1 G.l2 G.l3 held' peak' G.box G.kin G.isChild (ptr G.m)) : PB G w' fresh k held' peak' steps rv v1 v2 := by
  obtain ⟨n1, n2, n3, n4, n5, n6, n7, n8, n9, n10, n11, n12, n13, n14, n15, n16⟩ := h.nem
  have hfm := h.fm
  obtain ⟨ka, hk, h1, h2⟩ := h.act
  have hpg : G.pg ≠ G.p := fun e => row_ne h.past h.pr (by decide) (by rw [← e]; rfl)
  exact { pr := hp, mc := hT.ob h.mc (by simpa using n1), past := own_turn h.past hT (fun g hg e => hpg ((show G.pg = g by simpa [Value.ownBlock] using hg).trans (by simpa using e))), an := hT.ob h.an (by simpa using h_ne h.an h.pr (by decide)), anb := h.anb.turn hT (fun b off n c e hm => hfm.2.2.2.2.2.1 ((h.abk b off n c e).symm.trans (by simpa using hm))), anl := h.anl, abk := h.abk, act := ⟨ka, hk.keep hT (fun b hb => (by
    have e : b = G.p := by simpa using hb
    subst e
    exact ⟨n11, n12, n13, n14, h_ne h.pr hk.tb (by decide), hfm.2.2.1.symm, hfm.2.2.2.1.symm, n15, n16⟩)), h1, h2⟩, base := Nat.le_trans h.base hT.size, stat := h.stat, nab := h.nab, fm := h.fm }
theorem hold_B (h : PB G w false k held peak steps rv v1 v2) (j : Int) (hj : 0 ≤ j) (hh : 0 ≤ held) (hh2 : held + j ≤ 9223372036854775807) :
    Calls Tryz.prog 263 #[ptr G.p, .int .i64 j] w fun e w' => e = .returned (.tuple #[]) ∧ PB G w' false k (held + j) (max peak (held + j)) steps rv v1 v2 ∧ Turn [G.p] w w' := by
  refine (hold_yes h.pr h.mc (by decide) j hj hh hh2).mono ?_
  rintro e w' ⟨rfl, hp, hT⟩
  exact ⟨rfl, h.sets hT hp, hT⟩
theorem drop_B (h : PB G w false k held peak steps rv v1 v2) (j : Int) (hj : 0 ≤ j) (hh : 0 ≤ held) (hh2 : held ≤ 9223372036854775807) :
    Calls Tryz.prog 241 #[ptr G.p, .int .i64 j] w fun e w' => e = .returned (.tuple #[]) ∧ PB G w' false k (held - min j held) peak steps rv v1 v2 ∧ Turn [G.p] w w' := by
  refine (drop_yes h.pr h.mc (by decide) j hj hh hh2).mono ?_
  rintro e w' ⟨rfl, hp, hT⟩
  exact ⟨rfl, h.sets hT hp, hT⟩
theorem drop_F (h : PB G w true k held peak steps rv v1 v2) (j : Int) (hj : 0 ≤ j) :
    Calls Tryz.prog 241 #[ptr G.p, .int .i64 j] w fun e w' => e = .returned (.tuple #[]) ∧ PB G w' true k held peak steps rv v1 v2 ∧ Turn [] w w' := by
  refine (drop_no h.pr h.mc (by decide) j hj).mono ?_
  rintro e w' ⟨rfl, q, rfl⟩
  exact ⟨rfl, h.keep (S := []) ((Turn.refl [] w).drewN q) (by simp), (Turn.refl [] w).drewN q⟩
end
end Go.Proofs.YtfkoehfkiommpaaGreatDoor
