/- The first step: the call at which main waited is done, and main goes on to its end. -/
import Derived.Test.YteimilnecahifaaGreatDoorMGoF
namespace Go.Proofs.YteimilnecahifaaGreatDoor
open Go.RowKit Go.Shelf Go.Maps

/-- The ghost behind the first call. -/
def Gh.on (G : Gh) (k : KC) (pg pc an ab base : Nat) (ansv : Value) : Gh := { G with pg := pg, pc := pc, an := an, ab := ab, base := base, ansv := ansv, ans := (execS G.faults k G.first).1 }
theorem KI.on {G : Gh} {w : World} {k : KC} {rv v1 v2 : Value} (h : KI G w k rv v1 v2) {k0 : KC} {pg pc an ab base : Nat} {ansv : Value} : KI (G.on k0 pg pc an ab base ansv) w k rv v1 v2 :=
  ⟨h.kn, h.fl, h.mild, h.fit, h.tb, h.so, h.rest, h.rblk, h.k1, h.o1, h.k2, h.o2, h.s12, h.lt, h.v12, h.vr, h.vf, h.fb, h.rb⟩
/-- The process as it waits for its first step. -/
structure PW (G : Gh) (w : World) (k : KC) (held peak : Int) (rv v1 v2 nx : Value) : Prop where
  pr : PrAt w G.p G.kn G.tb G.args G.env G.cwd G.l1 G.l2 G.l3 held peak G.box G.kin G.isChild (.pointer none)
  mc : McAt w G.m G.p G.main (.slice none 0 0) 0 nx true 0 false 0
  ki : KI G w k rv v1 v2
  wt : Wt G w G.first nx
  base : G.base ≤ w.heap.size
  stat : G.p < G.base ∧ G.m < G.base ∧ G.kn < G.base ∧ G.tb < G.base ∧ G.so < G.base ∧ G.s1 < G.base ∧ G.s2 < G.base ∧ G.th < G.base ∧ G.fb < G.base ∧ G.rb < G.base
  v1l : ∀ b, v1.ownBlock = some b → b < G.base
  v2l : ∀ b, v2.ownBlock = some b → b < G.base
  fm : G.fb ≠ G.m ∧ G.rb ≠ G.m ∧ G.fb ≠ G.p ∧ G.rb ≠ G.p
  ok : (G.first.isRead = true → 1 ≤ G.first.most ∧ k.rest.length ≤ 1073741824) ∧ (G.first.isRead = false → G.first.b ≠ [] ∧ G.first.b.length ≤ 1073741824 ∧ k.out.length ≤ 549755813888 ∧ k.err.length ≤ 549755813888)
/-- What is known where the first call has been done. -/
structure DQ (G : Gh) (w : World) (k : KC) (v1 v2 : Value) (a : Nat) (u : World) (av rv' v1' v2' : Value) : Prop where
  an : AnAt u a (execS G.faults k G.first).1.num av (execS G.faults k G.first).1.err
  anb : ByAt u av (execS G.faults k G.first).1.bytes
  anl : (execS G.faults k G.first).1.bytes.length ≤ 1073741824
  abk : ∀ b off n c, av = .slice (some ⟨b, off, none⟩) n c → w.heap.size ≤ b ∧ b < u.heap.size
  ki : KI G u (execS G.faults k G.first).2 rv' v1' v2'
  at1 : ∀ b, v1'.ownBlock = some b → v1.ownBlock = some b ∨ w.heap.size ≤ b
  at2 : ∀ b, v2'.ownBlock = some b → v2.ownBlock = some b ∨ w.heap.size ≤ b
  nab : ∀ b off n c, av = .slice (some ⟨b, off, none⟩) n c → v1'.ownBlock ≠ some b ∧ v2'.ownBlock ≠ some b
  turn : Turn (G.m :: G.kn :: G.so :: G.s1 :: G.s2 :: (v1.ownBlock.toList ++ v2.ownBlock.toList)) w u
  ge : w.heap.size ≤ a
theorem exec_err (l : List (Int × Int)) (k : KC) (c : KCall) : (execS l k c).1.err = 0 ∨ (execS l k c).1.err = 9 := by
  unfold execS
  split
  · exact readS_err l k c.most
  · exact writeS_err l k c.isErr c.b
theorem infoA : (Tryz.prog.info? 148).map (fun i => (i.zero, i.size, i.bytes)) = some (some (.pointer none), 1, 8) := by kernel_rfl
theorem DQ.drewN {G : Gh} {w u : World} {k : KC} {v1 v2 av rv' v1' v2' : Value} {a : Nat} (h : DQ G w k v1 v2 a u av rv' v1' v2') (q : Nat) : DQ G w k v1 v2 a (u.drewN q) av rv' v1' v2' :=
  ⟨h.an, h.anb.turn ((Turn.refl [] u).drewN q) (by simp), h.anl, h.abk, h.ki.keep (S := []) ((Turn.refl [] u).drewN q) (by simp), h.at1, h.at2, h.nab, h.turn.drewN q, h.ge⟩
section
variable {G : Gh} {w : World} {k : KC} {held peak : Int} {rv v1 v2 nx : Value}
theorem try_first (h : PW G w k held peak rv v1 v2 nx) :
    Calls Tryz.prog 74 #[ptr G.m, nx] w fun e w' => ∃ an q u', e = .returned (.tuple #[ptr an, .bool true]) ∧ (∃ av rv' v1' v2', DQ G w k v1 v2 an u' av rv' v1' v2') ∧ McAt u' G.m G.p G.main (.slice none 0 0) 0 nx true 1 false 0 ∧ w' = u'.drewN q := by
  have hk := h.ki
  have n2 : G.m ≠ G.kn := h_ne h.mc hk.kn (by decide)
  have n3 : G.m ≠ G.tb := h_ne h.mc hk.tb (by decide)
  have n4 : G.m ≠ G.so := h_ne h.mc hk.so (by decide)
  have n5 : G.m ≠ G.s1 := h_ne h.mc hk.k1 (by decide)
  have n6 : G.m ≠ G.s2 := h_ne h.mc hk.k2 (by decide)
  have n7 := row_ne hk.o1 h.mc (by decide)
  have n8 := row_ne hk.o2 h.mc (by decide)
  have n1 : G.p ≠ G.m := h_ne h.pr h.mc (by decide)
  have hfm := h.fm
  have hst := h.stat
  have hbs := h.base
  have hku : ∀ u, Turn [G.m] w u → KI G u k rv v1 v2 := fun u hT => hk.keep hT (by
    intro b hb
    have e : b = G.m := by simpa using hb
    subst e
    exact ⟨n2, n4, n5, n6, n3, hfm.1.symm, hfm.2.1.symm, n7, n8⟩)
  have hpt : w.cell? ⟨G.p, 1, none⟩ = some (ptr G.tb) := h_cell h.pr 1 rfl
  have herr := exec_err G.faults k G.first
  by_cases hrd : G.first.isRead = true
  · exact (h.wt.rd hrd).elim
  · have hrd' : G.first.isRead = false := by simpa using hrd
    obtain ⟨a, b, x, kv, rfl, c1, c2, c3, hrow, g1, g2, g3⟩ := h.wt.wr hrd'
    obtain ⟨o1, o2, o3, o4⟩ := h.ok.2 hrd'
    have hex : execS G.faults k G.first = writeS G.faults k G.first.isErr G.first.b := by unfold execS; rw [if_neg hrd]
    refine try_c h.mc (by decide) (by decide) (cf_write _) ?_
    intro u hu hTu
    have hsz := hTu.size
    have hru := own_turn hrow hTu (fun g hg e => by have := own_ge hrow hg; simp at e; omega)
    have hkb : ∀ b off n c, kv = .slice (some ⟨b, off, none⟩) n c → b ≠ G.kn := fun b off n c e => by
      rcases hrow.2 with ⟨e1, _⟩ | ⟨g, cap, cur, e1, hg, hg2, _⟩
      · rw [e1] at e; cases e
      · rw [e1] at e; cases e; omega
    have hby0 : (execS G.faults k G.first).1.bytes = [] := by
      rw [hex]; unfold writeS; split <;> rfl
    cases herr2 : G.first.isErr with
    | false =>
      rw [herr2] at c2 hex
      refine (write1_k1 (hku u hTu) kv G.first.b (by_own hru) o1 o2 o3 hkb (hTu.cell hpt (by simpa using n1)) (hTu.cell c1 (by simp; omega)) (hTu.cell c2 (by simp; omega)) (hTu.cell c3 (by simp; omega))).mono ?_
      rintro e u' ⟨an, v', rfl, ha, hge, hki, hat, hT⟩
      rw [← hex] at ha hki
      refine ⟨an, _, rfl, h_cell ha 10 rfl, by omega, by omega, hT.ob hu (by simp; exact ⟨n2, n5, n7⟩), .slice none 0 0, rv, v', v2, ?_⟩
      refine ⟨ha, .inl ⟨rfl, hby0⟩, by rw [hby0]; decide, fun b off n c e => (by cases e), hki, fun b e => ?_, fun b e => .inl e, fun b off n c e => (by cases e), (hTu.mono (by simp)).trans (hT.mono (fun x hx => by simp at hx ⊢; rcases hx with h | h | h <;> simp [h])), Nat.le_trans hsz hge⟩
      rcases hat with h1 | ⟨g, h1, h2⟩
      · exact .inl (h1.symm.trans e)
      · rw [e] at h1; cases h1; exact .inr (Nat.le_trans hsz h2)
    | true =>
      rw [herr2] at c2 hex
      refine (write1_k2 (hku u hTu) kv G.first.b (by_own hru) o1 o2 o4 hkb (hTu.cell hpt (by simpa using n1)) (hTu.cell c1 (by simp; omega)) (hTu.cell c2 (by simp; omega)) (hTu.cell c3 (by simp; omega))).mono ?_
      rintro e u' ⟨an, v', rfl, ha, hge, hki, hat, hT⟩
      rw [← hex] at ha hki
      refine ⟨an, _, rfl, h_cell ha 10 rfl, by omega, by omega, hT.ob hu (by simp; exact ⟨n2, n6, n8⟩), .slice none 0 0, rv, v1, v', ?_⟩
      refine ⟨ha, .inl ⟨rfl, hby0⟩, by rw [hby0]; decide, fun b off n c e => (by cases e), hki, fun b e => .inl e, fun b e => ?_, fun b off n c e => (by cases e), (hTu.mono (by simp)).trans (hT.mono (fun x hx => by simp at hx ⊢; rcases hx with h | h | h <;> simp [h])), Nat.le_trans hsz hge⟩
      rcases hat with h1 | ⟨g, h1, h2⟩
      · exact .inl (h1.symm.trans e)
      · rw [e] at h1; cases h1; exact .inr (Nat.le_trans hsz h2)

end
end Go.Proofs.YteimilnecahifaaGreatDoor

namespace Go.Proofs.YteimilnecahifaaGreatDoor
open Go.RowKit Go.Shelf Go.Maps

/-- What main does in its last pass, begun in the world u. -/
def MainAt (G : Gh) (u : World) (f0 : Nat) (margs : Array Value) (k : KC) (held peak steps : Int) (Q : Int → KC → Int → Int → Int → Prop) : Prop :=
  ∀ rv v1 v2, PB G u true k held peak steps rv v1 v2 → Calls Tryz.prog f0 margs u fun e u' => ∃ st k' held' peak' steps' rv' v1' v2' S, e = .returned (.int .i64 st) ∧ PB G u' false k' held' peak' steps' rv' v1' v2' ∧ Q st k' held' peak' steps' ∧ Turn S u u' ∧ ∀ b ∈ S, b ∈ privL G v1 v2 ∨ u.heap.size ≤ b

set_option maxHeartbeats 4000000 in
set_option maxRecDepth 100000 in
/-- Where main comes to its end. -/
theorem goOn_endsB {G : Gh} {w : World} {told : Int} {k : KC} {held peak steps : Int} {rv v1 v2 : Value} {f0 : Nat} {c0 : Value} {Q : Int → KC → Int → Int → Int → Prop} (h : PR G w told k held peak steps rv v1 v2) (hg : G.main = .func (.func f0) #[c0] #[]) (hcf : ∀ u : World, (callFunc f0 #[c0, ptr G.p]).run Tryz.prog u = .ok (.enter f0 #[c0, ptr G.p]) u)
    (hmain : MainAt G (GoW w G.p G.m (.pointer none)).drew f0 #[c0, ptr G.p] k held peak steps Q) :
    Calls Tryz.prog 75 #[ptr G.m] w fun e w' => e = .returned (.tuple #[]) ∧ ∃ st k' held' peak' steps' rv' v1' v2' S, Fin G w' k' held' peak' steps' st rv' v1' v2' ∧ Q st k' held' peak' steps' ∧ Turn S w w' ∧ ∀ b ∈ S, b = G.tb ∨ b ∈ privL G v1 v2 ∨ w.heap.size ≤ b := by
  have hmf : ∀ (fn : Fn) (first cap : Array Value) (w : World), (Instr.makeFunc fn first cap).run Tryz.prog w = .ok (.func fn first cap) w := fun _ _ _ _ => rfl
  have hmc := h.mc
  rw [hg] at hmc
  have m0 : w.cell? ⟨G.m, 0, none⟩ = some (ptr G.p) := h_cell hmc 0 rfl
  have m1 : w.cell? ⟨G.m, 1, none⟩ = some (.func (.func f0) #[c0] #[]) := h_cell hmc 1 rfl
  have m3 : w.cell? ⟨G.m, 3, none⟩ = some (.int .i64 told) := h_cell hmc 3 rfl
  have y3 := h_fz hmc 3
  have p13 : w.cell? ⟨G.p, 13, none⟩ = some (.pointer none) := h_cell h.pr 13 rfl
  have z13 := h_fz h.pr 13
  have hne : G.m ≠ G.p := h_ne hmc h.pr (by decide)
  have hml := h_lt hmc
  have hpl := h_lt h.pr
  have hcall := hmain rv v1 v2 h.goes
  have HH := Lib.hid h
  clear h hmain hmc
  go_enter_defers Tryz.func75, Tryz.ntmps75
  go_wp2_with fail
  go_region
  go_wp2_with fail
  refine Code.wp_mono (AtPanic.imp (D0 := [{ target := Target.fn (Fn.func 104) #[ptr (w.heap.size + 1), ptr w.heap.size], args := #[] }])) ?_
  go_region_with (refine hcall.mono ?_; rintro e u ⟨st, k', held', peak', steps', rv', v1', v2', S, rfl, hP, hQ, hT, hS⟩)
  all_goals
    have hl := isLeft_goes hP.mc
    obtain ⟨ka, hk, _, he⟩ := hP.act
    obtain rfl := he rfl
    have hnem := hP.nem
    have hend := end_c hP.tbc hnem.1.symm hP.mc ⟨hk.tb, hk.so, hk.k1, hk.k2⟩ hk.s12 st
    have hbx : u.cell? ⟨w.heap.size, 0, none⟩ = some (ptr G.m) := hT.cell (goW_box w G.p G.m (.pointer none)).2 (fun hm => by
      rcases hS _ hm with h | h
      · exact HH.out.farP h
      · have h2 : w.heap.size + 1 + 1 ≤ w.heap.size := by simpa [GoW] using h
        omega)
    have HP := Lib.hid (And.intro hP hk)
    have HS := Lib.hid (And.intro hT (And.intro hS hQ))
    clear hP hk hT hS hQ hcall m0 m1 m3 y3 p13 z13 he
    simp only [AtPanic, Act.put, List.getElem_toArray, List.getElem_cons_succ, List.getElem_cons_zero, List.setIfInBounds_toArray, List.set_cons_succ, List.set_cons_zero]
    go_wp2_with (first
      | (go_at_call 105; refine hl.mono ?_; rintro e w' ⟨rfl, hw'⟩; rw [hw']; clear hw')
      | (go_at_call 103; refine hend.mono ?_; rintro e u2 ⟨⟨r, rfl⟩, hM2, hF2, hT2⟩))
    obtain ⟨hP, hk⟩ := HP.out
    obtain ⟨hT, hS, hQ⟩ := HS.out
    obtain ⟨n1, n2, n3, n4, n5, n6, n7, n8, n9, n10, n11, n12, n13, n14, n15, n16⟩ := hnem
    have hpt : G.p ≠ G.tb := h_ne hP.pr hk.tb (by decide)
    have hnes := hk.nes
    have hrows := hk.rows
    have hsz : (GoW w G.p G.m (.pointer none)).drew.heap.size = w.heap.size + 1 + 1 := by simp [GoW]
    have hp2 : PrAt u2 G.p G.kn G.tb G.args G.env G.cwd G.l1 G.l2 G.l3 held' peak' G.box G.kin G.isChild (ptr G.m) := hT2.ob hP.pr (by simp; exact ⟨n1.symm, hpt, n12, n13, n14⟩)
    have hS2 : ∀ b ∈ G.m :: G.tb :: G.so :: G.s1 :: G.s2 :: S, b = G.tb ∨ b ∈ privL G v1 v2 ∨ w.heap.size + 1 < b := fun b hb => by
      simp only [List.mem_cons] at hb
      rcases hb with h | h | h | h | h | h
      · exact .inr (.inl (mem_privL.2 (by simp [h])))
      · exact .inl h
      · exact .inr (.inl (mem_privL.2 (by simp [h])))
      · exact .inr (.inl (mem_privL.2 (by simp [h])))
      · exact .inr (.inl (mem_privL.2 (by simp [h])))
      · rcases hS b h with h | h
        · exact .inr (.inl h)
        · rw [hsz] at h; exact .inr (.inr (by omega))
    have hTT : Turn (G.m :: G.tb :: G.so :: G.s1 :: G.s2 :: S) (GoW w G.p G.m (.pointer none)).drew u2 := (hT.mono (fun x hx => by simp [hx])).trans (hT2.mono (by simp))
    have htl : G.tb < w.heap.size := by obtain ⟨kb, hkb, _⟩ := HH.out.act; exact h_lt hkb.tb
    refine goOn_left (S := G.m :: G.tb :: G.so :: G.s1 :: G.s2 :: S) (fun b hb => ?_) hp2 (h_cell hM2 0 rfl) hTT ?_ _ rfl
    · rcases hS2 b hb with h | h | h
      · exact .inl (h ▸ htl)
      · exact .inl (HH.out.privs h)
      · exact .inr h
    · have hX : Turn [G.p] u2 (u2.drew.setCell ⟨G.p, 13, none⟩ (.pointer none)) := (Turn.refl [G.p] u2).drew.trans (Turn.set _ G.p 13 _ (by simp))
      have hpr : PrAt (u2.drew.setCell ⟨G.p, 13, none⟩ (.pointer none)) G.p G.kn G.tb G.args G.env G.cwd G.l1 G.l2 G.l3 held' peak' G.box G.kin G.isChild (.pointer none) := by simpa using h_set (w := u2.drew) hp2 13 (.pointer none)
      have hv1 : ∀ g, v1'.ownBlock = some g → g ∉ [G.m, G.tb, G.so, G.s1, G.s2] := fun g hg hm => by
        simp only [List.mem_cons, List.not_mem_nil, or_false] at hm
        rcases hm with h | h | h | h | h
        · exact n7 (h ▸ hg)
        · exact hrows.1.2.2.2.2 (h ▸ hg)
        · exact hrows.1.2.1 (h ▸ hg)
        · exact hrows.1.2.2.1 (h ▸ hg)
        · exact hrows.1.2.2.2.1 (h ▸ hg)
      have hv2 : ∀ g, v2'.ownBlock = some g → g ∉ [G.m, G.tb, G.so, G.s1, G.s2] := fun g hg hm => by
        simp only [List.mem_cons, List.not_mem_nil, or_false] at hm
        rcases hm with h | h | h | h | h
        · exact n8 (h ▸ hg)
        · exact hrows.2.2.2.2.2 (h ▸ hg)
        · exact hrows.2.2.1 (h ▸ hg)
        · exact hrows.2.2.2.1 (h ▸ hg)
        · exact hrows.2.2.2.2.1 (h ▸ hg)
      refine ⟨st, ka, held', peak', steps', rv', v1', v2', G.p :: G.m :: G.tb :: G.so :: G.s1 :: G.s2 :: S, ⟨hpr, hX.ob hM2 (by simpa using n1), hX.ob (hT2.ob hk.kn (by simp; exact ⟨n2.symm, hnes.2.2.2.2.2.1.symm, hnes.1, hnes.2.1, hnes.2.2.1⟩)) (by simpa using n11.symm), ⟨hX.ob hF2.tb (by simpa using hpt.symm), hX.ob hF2.so (by simpa using n12.symm), hX.ob hF2.k1 (by simpa using n13.symm), hX.ob hF2.k2 (by simpa using n14.symm)⟩, own_turn (own_turn hk.o1 hT2 hv1) hX (fun g hg e => n15 ((by simpa using e : g = G.p) ▸ hg)), own_turn (own_turn hk.o2 hT2 hv2) hX (fun g hg e => n16 ((by simpa using e : g = G.p) ▸ hg))⟩, hQ, ?_, fun b hb => ?_⟩
      · exact ((goW_turn.drew.mono (by simp)).trans (hTT.mono (fun x hx => by simp at hx ⊢; exact .inr hx))).trans (hX.mono (by simp))
      · rcases List.mem_cons.1 hb with h | h
        · exact .inr (.inl (mem_privL.2 (.inl h)))
        · rcases hS2 b h with h | h | h
          · exact .inl h
          · exact .inr (.inl h)
          · exact .inr (.inr (by omega))
end Go.Proofs.YteimilnecahifaaGreatDoor

namespace Go.Proofs.YteimilnecahifaaGreatDoor
open Go.RowKit Go.Shelf Go.Maps

section
variable {G : Gh} {w : World} {k : KC} {held peak : Int} {rv v1 v2 nx : Value}
set_option maxRecDepth 100000 in
set_option maxHeartbeats 4000000 in
/-- The first step of a machine whose main is a method bound to its receiver, to the end. -/
theorem step_runsB {f0 : Nat} {c0 : Value} {Q : Int → KC → Int → Int → Int → Prop} (h : PW G w k held peak rv v1 v2 nx) (hnx : ∃ f y z, nx = .func f y z) (hg : G.main = .func (.func f0) #[c0] #[]) (hcf : ∀ u : World, (callFunc f0 #[c0, ptr G.p]).run Tryz.prog u = .ok (.enter f0 #[c0, ptr G.p]) u)
    (hmain : ∀ pg pc an ab base ansv u, Turn (privL G v1 v2) w u → MainAt (G.on k pg pc an ab base ansv) u f0 #[c0, ptr G.p] k held peak 1 Q) :
    Calls Tryz.prog 47 #[ptr G.m] w fun e w' => e = .returned (.bool true) ∧ ∃ G' st k' held' peak' steps' rv' v1' v2' S, (∃ pg pc an ab base ansv, G' = G.on k pg pc an ab base ansv) ∧ Fin G' w' k' held' peak' steps' st rv' v1' v2' ∧ Q st k' held' peak' steps' ∧ Turn S w w' ∧ ∀ b ∈ S, b = G.tb ∨ b ∈ privL G v1 v2 ∨ w.heap.size ≤ b := by
  obtain ⟨ia, hia, hiz, his, hib⟩ := info_parts infoA
  have ht := try_first h
  have m7 : w.cell? ⟨G.m, 7, none⟩ = some (.bool false) := h_cell h.mc 7 rfl
  have m4 : w.cell? ⟨G.m, 4, none⟩ = some nx := h_cell h.mc 4 rfl
  have hml := h_lt h.mc
  have HH := Lib.hid h
  obtain ⟨ff, fy, fz, rfl⟩ := hnx
  clear h
  have ht2 : Calls Tryz.prog 74 #[ptr G.m, .func ff fy fz] w fun e w' => ∃ an av rv' v1' v2', e = .returned (.tuple #[ptr an, .bool true]) ∧ DQ G w k v1 v2 an w' av rv' v1' v2' ∧ McAt w' G.m G.p G.main (.slice none 0 0) 0 (.func ff fy fz) true 1 false 0 := by
    refine ht.mono ?_
    rintro e w' ⟨an, q, u0, rfl, ⟨av, rv', v1', v2', hD⟩, hM, rfl⟩
    exact ⟨an, av, rv', v1', v2', rfl, hD.drewN q, hM⟩
  clear ht
  go_enter Tryz.func47, Tryz.ntmps47
  go_wp2_with (first
    | (go_at_call 74; refine ht2.mono ?_; rintro e U ⟨an, av, rv', v1', v2', rfl, hD, hM⟩; have c2 : U.cell? ⟨G.m, 2, none⟩ = some (.slice none 0 0) := h_cell hM 2 rfl; have hmU := h_lt hM; have z2 := h_fz hM 2; have HM := Lib.hid hM; have HD := Lib.hid hD; clear hM hD)
    | (at_builtin; refine wpList_append_own_at _ rfl _ _ 94 rfl U.heap.size 148 ia (.pointer none) 1 8 Tryz.underlying94 hia hiz his hib rfl (by decide) (.slice none 0 0) 0 [] rfl (World.ownsRow_nil _ _ _ _) ⟨U.heap.size, 0, none⟩ 1 1 [ptr an] rfl rfl (cell_one_new U (ptr an) 148) (by simp [Value.oneCell']) (by unfold maxLen; decide) (by decide) (by simp) ?_; intro pv w2 hown hgrow _ hat; obtain ⟨xa, xc, rfl⟩ := own_shape hown; have hM2 := (hgrow.block G.m (by simp; omega) (by simp [Value.ownBlock])).trans (al_old _ HM.out); have d2 : w2.cell? ⟨G.m, 2, none⟩ = some (.slice none 0 0) := h_cell hM2 2 rfl; have y2 := h_fz hM2 2; have HM2 := Lib.hid hM2; clear hM2))
  have hM2 := HM2.out
  have hD := HD.out
  have hM := HM.out
  have hW := HH.out
  have hu : U.heap.size + 1 ≤ w2.heap.size := by have := hgrow.size; simpa using this
  have hTg : Turn [G.m] U w2 := (Turn.alloc U _).trans ⟨hgrow.os, hgrow.tape, hgrow.output, hgrow.size, fun b hb _ => hgrow.block b hb (by simp [Value.ownBlock])⟩
  obtain ⟨pg, pc, cur, e1, hpg, hpgl⟩ : ∃ pg pc cur, Value.slice xa (0 + 1) xc = .slice (some ⟨pg, 0, none⟩) 1 pc ∧ U.heap.size ≤ pg ∧ w2.heap[pg]? = some (.cells cur 148 (0, 0)) := by
    obtain ⟨g, cap, cur, e, hb, hg, _⟩ := row_shape hown (by decide)
    exact ⟨g, cap, cur, e, hb, hg⟩
  cases e1
  have hW3 : McAt (w2.setCell ⟨G.m, 2, none⟩ (.slice (some ⟨pg, 0, none⟩) 1 xc)) G.m G.p G.main (.slice (some ⟨pg, 0, none⟩) 1 xc) 0 (.func ff fy fz) true 1 false 0 := by simpa using h_set hM2 2 (.slice (some ⟨pg, 0, none⟩) 1 xc)
  rw [store_nilfn (h_cell hW3 4 rfl) (h_fz hW3 4)]
  have hW4 : McAt ((w2.setCell ⟨G.m, 2, none⟩ (.slice (some ⟨pg, 0, none⟩) 1 xc)).setCell ⟨G.m, 4, none⟩ .nilFunc) G.m G.p G.main (.slice (some ⟨pg, 0, none⟩) 1 xc) 0 .nilFunc true 1 false 0 := by simpa using h_set hW3 4 .nilFunc
  have hTs : Turn [G.m] w2 ((w2.setCell ⟨G.m, 2, none⟩ (.slice (some ⟨pg, 0, none⟩) 1 xc)).setCell ⟨G.m, 4, none⟩ .nilFunc) := (Turn.set w2 G.m 2 _ (by simp)).trans (Turn.set _ G.m 4 _ (by simp))
  generalize (w2.setCell ⟨G.m, 2, none⟩ (.slice (some ⟨pg, 0, none⟩) 1 xc)).setCell ⟨G.m, 4, none⟩ .nilFunc = W4 at hW4 hTs ⊢
  have hT4 : Turn [G.m] U W4 := hTg.trans hTs
  have hsz4 := hTs.size
  have hDs := hD.turn.size
  obtain ⟨ab, hab1, hab2, hab3⟩ : ∃ ab, (∀ b off n c, av = .slice (some ⟨b, off, none⟩) n c → b = ab) ∧ (w.heap.size ≤ ab ∧ ab < W4.heap.size) ∧ (v1'.ownBlock ≠ some ab ∧ v2'.ownBlock ≠ some ab) := by
    by_cases hav : ∃ b off n c, av = .slice (some ⟨b, off, none⟩) n c
    · obtain ⟨b, off, n, c, e⟩ := hav
      have h1 := hD.abk b off n c e
      refine ⟨b, fun b2 o2 n2 c2 e2 => by rw [e] at e2; cases e2; rfl, ⟨h1.1, by omega⟩, hD.nab b off n c e⟩
    · refine ⟨U.heap.size, fun b off n c e => absurd ⟨b, off, n, c, e⟩ hav, ⟨hDs, by omega⟩, fun e => ?_, fun e => ?_⟩
      · have := own_lt hD.ki.o1 e; omega
      · have := own_lt hD.ki.o2 e; omega
  have hst := hW.stat
  have hbs := hW.base
  have hfm := hW.fm
  have hk := hD.ki
  have hpm : G.p ≠ G.m := h_ne hW.pr hW.mc (by decide)
  have n2 : G.m ≠ G.kn := h_ne hM hk.kn (by decide)
  have n3 : G.m ≠ G.tb := h_ne hM hk.tb (by decide)
  have n4 : G.m ≠ G.so := h_ne hM hk.so (by decide)
  have n5 : G.m ≠ G.s1 := h_ne hM hk.k1 (by decide)
  have n6 : G.m ≠ G.s2 := h_ne hM hk.k2 (by decide)
  have n7 := row_ne hk.o1 hM (by decide)
  have n8 := row_ne hk.o2 hM (by decide)
  have q2 : G.p ≠ G.kn := h_ne hW.pr hW.ki.kn (by decide)
  have q4 : G.p ≠ G.so := h_ne hW.pr hW.ki.so (by decide)
  have q5 : G.p ≠ G.s1 := h_ne hW.pr hW.ki.k1 (by decide)
  have q6 : G.p ≠ G.s2 := h_ne hW.pr hW.ki.k2 (by decide)
  have q7 := row_ne hW.ki.o1 hW.pr (by decide)
  have q8 := row_ne hW.ki.o2 hW.pr (by decide)
  have hanm : an ≠ G.m := h_ne hD.an hM (by decide)
  have hanl := h_lt hD.an
  have hpU : PrAt U G.p G.kn G.tb G.args G.env G.cwd G.l1 G.l2 G.l3 held peak G.box G.kin G.isChild (.pointer none) := hD.turn.ob hW.pr (by simp; exact ⟨hpm, q2, q4, q5, q6, q7, q8⟩)
  have hpgl2 : pg < w2.heap.size := (Array.getElem?_eq_some_iff.1 hpgl).1
  have hpgS : ∀ g, (Value.slice (some ⟨pg, 0, none⟩) (0 + 1) xc).ownBlock = some g → g ∉ [G.m] := fun g hg e => by
    have e2 : pg = g := by simpa [Value.ownBlock] using hg
    simp at e
    omega
  have hPR : PR (G.on k pg xc an ab W4.heap.size av) W4 0 k held peak 1 rv' v1' v2' :=
    { pr := hT4.ob hpU (show G.p ∉ [G.m] by simpa using hpm), mc := hW4, past := own_less0 (own_turn hown hTs hpgS) (Nat.zero_le _), an := hT4.ob hD.an (show an ∉ [G.m] by simpa using hanm), anb := hD.anb.turn hT4 (fun b off n c e hm => (by have h1 := hD.abk b off n c e; simp at hm; omega)), anl := hD.anl, abk := hab1, act := ⟨_, (hk.keep hT4 (fun b hb => (by
        have e : b = G.m := by simpa using hb
        subst e
        exact ⟨n2, n4, n5, n6, n3, hfm.1.symm, hfm.2.1.symm, n7, n8⟩))).on, rfl⟩, base := Nat.le_refl _, stat := (fun b hb => (by
        simp only [stats, Gh.on, List.mem_cons, List.not_mem_nil, or_false] at hb
        show b < W4.heap.size
        omega)), nab := hab3, fm := ⟨hfm.1, hfm.2.1, hfm.2.2.1, hfm.2.2.2, (by show ab ≠ G.m; omega), (by show ab ≠ G.p; omega), (by show ab ≠ G.kn; omega), (by show ab ≠ G.so; omega), (by show ab ≠ G.s1; omega), (by show ab ≠ G.s2; omega)⟩ }
  have hTu : Turn (privL G v1 v2) w (GoW W4 G.p G.m (.pointer none)).drew := (hD.turn.mono (fun b hb => by
      rw [mem_privL]
      simp only [List.mem_cons, List.mem_append, Option.mem_toList] at hb
      rcases hb with h | h | h | h | h | h | h <;> simp [h])).trans ((hT4.mono (fun b hb => by simp at hb; rw [mem_privL]; simp [hb])).trans (goW_turn.drew.mono (fun b hb => by rw [mem_privL]; simp at hb; rcases hb with h | h <;> simp [h])))
  have hgo := goOn_endsB (G := G.on k pg xc an ab W4.heap.size av) hPR hg hcf (hmain pg xc an ab W4.heap.size av _ hTu)
  have HX := Lib.hid (And.intro hD (And.intro hT4 hW))
  clear hTu hPR hM2 hM hD hW hTg hTs hT4 hW3 hW4 hk hpU hown hgrow hat HM2 HD HM
  simp only [Result.andThen_ok]
  go_wp2_with (go_at_call 75; refine hgo.mono ?_; rintro e w5 ⟨rfl, st, k', held', peak', steps', rv5, v15, v25, S, hF, hQ, hT5, hS5⟩; have f7 : w5.cell? ⟨G.m, 7, none⟩ = some (.bool true) := h_cell hF.mc 7 rfl)
  go_ret
  obtain ⟨hD, hT4, hW⟩ := HX.out
  refine ⟨rfl, _, st, k', held', peak', steps', rv5, v15, v25, _, ⟨pg, xc, an, ab, W4.heap.size, av, rfl⟩, hF, hQ, (hD.turn.mono (S' := (G.m :: G.kn :: G.so :: G.s1 :: G.s2 :: (v1.ownBlock.toList ++ v2.ownBlock.toList)) ++ S) (fun x hx => List.mem_append.2 (.inl hx))).trans ((hT4.mono (fun x hx => by simp at hx; simp [hx])).trans (hT5.mono (fun x hx => List.mem_append.2 (.inr hx)))), fun b hb => ?_⟩
  rcases List.mem_append.1 hb with h | h
  · simp only [List.mem_cons, List.mem_append, Option.mem_toList] at h
    refine .inr (.inl (mem_privL.2 ?_))
    rcases h with h | h | h | h | h | h | h <;> simp [h]
  · rcases hS5 b h with h | h | h
    · exact .inl h
    · rcases mem_privL.1 h with h | h | h | h | h | h | h | h
      · exact .inr (.inl (mem_privL.2 (.inl h)))
      · exact .inr (.inl (mem_privL.2 (.inr (.inl h))))
      · exact .inr (.inl (mem_privL.2 (.inr (.inr (.inl h)))))
      · exact .inr (.inl (mem_privL.2 (.inr (.inr (.inr (.inl h))))))
      · exact .inr (.inl (mem_privL.2 (.inr (.inr (.inr (.inr (.inl h)))))))
      · exact .inr (.inl (mem_privL.2 (.inr (.inr (.inr (.inr (.inr (.inl h))))))))
      · exact (hD.at1 b h).elim (fun e => .inr (.inl (mem_privL.2 (.inr (.inr (.inr (.inr (.inr (.inr (.inl e)))))))))) (fun e => .inr (.inr e))
      · exact (hD.at2 b h).elim (fun e => .inr (.inl (mem_privL.2 (.inr (.inr (.inr (.inr (.inr (.inr (.inr e)))))))))) (fun e => .inr (.inr e))
    · exact .inr (.inr (by omega))
end
end Go.Proofs.YteimilnecahifaaGreatDoor
