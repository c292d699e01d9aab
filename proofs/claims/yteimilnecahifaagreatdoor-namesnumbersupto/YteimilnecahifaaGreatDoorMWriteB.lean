/- How a kernel's source and sinks are made and laid down; what a sink said. -/
import Derived.Test.YteimilnecahifaaGreatDoorMRead
namespace Go.Proofs.YteimilnecahifaaGreatDoor
open Go.RowKit Go.Shelf Go.Maps

set_option maxRecDepth 100000 in
set_option maxHeartbeats 2000000 in
theorem source_by (k th N : Nat) (iv : Value) (tr fs : Value) (used now last : Int) (D : DataW Value) (d : List UInt8) (w : World) (hK : KnAt w k tr fs used now th last) (hM : w.ownsMap Tryz.prog 3 R th N D) (hN : N < 999999) (h0 : 0 ≤ last) (h1 : last < 4611686018427387903)
    (hn : d.length ≤ 1073741824) (hB : ByAt w iv d) :
    Calls Tryz.prog 44 #[ptr k, iv] w fun r w' => ∃ e rv, r = .returned (.int .i64 (last + 1)) ∧ w.heap.size ≤ e ∧ SoAt w' e 0 rv ∧ w'.ownsRow w.heap.size 5 1 rv d.length (u8s d) ∧ KnAt w' k tr fs used now th (last + 1) ∧ w'.ownsMap Tryz.prog 3 R th (N + 1) (D.put (ik (last + 1)) (.held (iSo e))) ∧ Turn [k, th] w w' := by
  have hkl := h_lt hK
  have hml := hM.lt
  have hcl := bclone_by iv d w hn hB
  obtain ⟨xi, ci, rfl⟩ := hB.shape
  have HH := Lib.hid (And.intro hK hM)
  clear hK hM hB
  go_enter Tryz.func44, Tryz.ntmps44
  go_wp2_with fail
  refine hcl.mono ?_
  rintro e w1 ⟨rv, rfl, ho1, hB1⟩
  obtain ⟨a1, c1, rfl⟩ : ∃ a c, rv = .slice a d.length c := own_shape ho1
  obtain ⟨hK, hM⟩ := HH.out
  have hz1 := hB1.size
  have hU1 : Turn [k, th] w w1 := Turn.below hB1
  have hK1 : KnAt w1 k tr fs used now th last := (Turn.below (S := []) hB1).ob hK (by simp)
  have hM1 : w1.ownsMap Tryz.prog 3 R th N D := (Turn.below (S := []) hB1).map hM (by simp)
  have hadd := add_c k th N tr fs (iSo w1.heap.size) used now last D (w1.alloc (.cells #[.int .i64 0, .slice a1 d.length c1] 138)) (al_old _ hK1) (hM1.alloc _) (by omega) h0 (by omega)
  have HA := Lib.hid (And.intro ho1 hU1)
  clear hcl HH hK hM hK1 hM1 ho1 hU1 hB1
  go_wp2_with fail
  refine hadd.mono ?_
  rintro r w2 ⟨rfl, hK2, hM2, hU2⟩
  obtain ⟨ho1, hU1⟩ := HA.out
  clear hadd HA
  go_wp2_with fail
  go_ret
  refine ⟨w1.heap.size, .slice a1 d.length c1, rfl, hz1, hU2.ob (al_new _ _ rfl) (by simp; omega), own_turn (ho1.alloc _) hU2 (fun g hg e => by have := own_ge ho1 hg; simp at e; omega), hK2, hM2, (hU1.trans (Turn.alloc _ _)).trans hU2⟩


set_option maxRecDepth 100000 in
set_option maxHeartbeats 2000000 in
theorem sink_c (k th N : Nat) (tr fs : Value) (used now last : Int) (D : DataW Value) (w : World) (hK : KnAt w k tr fs used now th last) (hM : w.ownsMap Tryz.prog 3 R th N D) (hN : N < 999999) (h0 : 0 ≤ last) (h1 : last < 4611686018427387903) :
    Calls Tryz.prog 45 #[ptr k] w fun r w' => ∃ e, r = .returned (.int .i64 (last + 1)) ∧ w.heap.size ≤ e ∧ SkAt w' e 0 (.slice none 0 0) ∧ KnAt w' k tr fs used now th (last + 1) ∧ w'.ownsMap Tryz.prog 3 R th (N + 1) (D.put (ik (last + 1)) (.held (iSk e))) ∧ Turn [k, th] w w' := by
  have hkl := h_lt hK
  have hml := hM.lt
  have hadd := add_c k th N tr fs (iSk w.heap.size) used now last D (w.alloc (.cells #[.int .i64 0, .slice none 0 0] 141)) (al_old _ hK) (hM.alloc _) (by omega) h0 (by omega)
  clear hK hM
  go_enter Tryz.func45, Tryz.ntmps45
  go_wp2_with (go_at_call 70; refine hadd.mono ?_; rintro r w2 ⟨rfl, hK2, hM2, hU2⟩)
  go_ret
  exact ⟨w.heap.size, rfl, Nat.le_refl _, hU2.ob (al_new _ _ rfl) (by simp; omega), hK2, hM2, (Turn.alloc _ _).trans hU2⟩

set_option maxRecDepth 100000 in
set_option maxHeartbeats 2000000 in
theorem said_c (k th N s : Nat) (tr fs v : Value) (used now last c n : Int) (D : DataW Value) (d : List UInt8) (w : World) (hK : KnAt w k tr fs used now th last) (hM : w.ownsMap Tryz.prog 3 R th N D) (hn : (Lit.int .i64 n).wf = true) (hlk : lookT D (ik n) = iSk s) (hS : SkAt w s c v) (hB : ByAt w v d) (hd : d.length ≤ 1073741824) :
    Calls Tryz.prog 48 #[ptr k, .int .i64 n] w fun r w' => ∃ v', r = .returned v' ∧ w'.ownsRow w.heap.size 5 1 v' d.length (u8s d) ∧ Below w.heap.size w w' := by
  have hcl := bclone_by v d w hd hB
  obtain ⟨xv, cv, rfl⟩ := hB.shape
  have s1 := h_cell hS 1 rfl
  have t1 := ta_sk_sk
  have hsd : Calls Tryz.prog 76 #[iSk s] w fun r w' => ∃ v', r = .returned v' ∧ w'.ownsRow w.heap.size 5 1 v' d.length (u8s d) ∧ Below w.heap.size w w' := by
    clear hK hM
    go_enter Tryz.func76, Tryz.ntmps76
    go_wp2_with (go_at_call 71; refine hcl.mono ?_; rintro r w2 ⟨v', rfl, ho, hB2⟩)
    go_ret
    exact ⟨v', rfl, ho, hB2⟩
  have k4 := h_cell hK 4 rfl
  have hl := lookTI hM hn
  rw [hlk] at hl
  clear hK hM hcl
  go_enter Tryz.func48, Tryz.ntmps48
  go_wp2_with (go_at_call 76; refine hsd.mono ?_; rintro r w2 ⟨v', rfl, ho, hB2⟩)
  go_ret
  exact ⟨v', rfl, ho, hB2⟩
set_option maxRecDepth 100000 in
set_option maxHeartbeats 1000000 in
theorem set_sk (t k fd e : Nat) (c : Int) (hs : Array Value) (w : World) (hT : TbAt w t k hs) (hfd : fd < 16) (hx : hs[fd]? = some .nilIface) (hc : w.cell? ⟨e, 0, none⟩ = some (.int .i64 c)) (hz : w.frozen? ⟨e, 0, none⟩ = false) (h0 : 0 ≤ c) (h1 : c < 4611686018427387904) (hne : t ≠ e) :
    Calls Tryz.prog 73 #[ptr t, .int .i64 fd, iSk e] w fun r w' => (∃ v, r = .returned v) ∧ w' = (w.setCell ⟨e, 0, none⟩ (.int .i64 (c + 1))).setCell ⟨t, 1 + fd, none⟩ (iSk e) := by
  have q1 := tb_cell hT fd hx
  have q3 : 0 ≤ (fd : Int) ∧ (fd : Int) < 16 := by omega
  have hT2 : TbAt (w.setCell ⟨e, 0, none⟩ (.int .i64 (c + 1))) t k hs := s_other hT hne
  have q4 := tb_cell hT2 fd hx
  have q5 := h_fz hT2 (1 + fd)
  have hT3 := tb_set hT2 fd (iSk e)
  have q6 := tb_kern hT3
  have hg := gain_c e c w hc hz h0 h1
  have hmm := m_gain_sk
  clear hT hT2 hT3
  go_enter Tryz.func73, Tryz.ntmps73
  go_wp2_with (first
    | (go_at_call 308; refine hg.mono ?_; rintro r w2 ⟨⟨v, rfl⟩, hw2⟩; rw [hw2]; clear hw2)
    | (go_at_call 101; refine (leave_nil k _).mono ?_; rintro r w3 ⟨⟨v, rfl⟩, hw3⟩; rw [hw3]; clear hw3))
  go_end0
  exact ⟨⟨_, rfl⟩, rfl⟩

end Go.Proofs.YteimilnecahifaaGreatDoor

namespace Go.Proofs.YteimilnecahifaaGreatDoor
open Go.RowKit Go.Shelf Go.Maps
section
variable {G : Gh} {w : World} {rv v1 v2 tr fs : Value} {used now last : Int} {N : Nat} {D : DataW Value}
theorem put_0 (h : FS G w #[.nilIface, .nilIface, .nilIface, .nilIface, .nilIface, .nilIface, .nilIface, .nilIface, .nilIface, .nilIface, .nilIface, .nilIface, .nilIface, .nilIface, .nilIface, .nilIface] 0 0 0 rv v1 v2) (hK : KnAt w G.kn tr fs used now G.th last) (hM : w.ownsMap Tryz.prog 3 R G.th N D) (hlk : lookT D (ik 1) = iSo G.so) :
    Calls Tryz.prog 46 #[ptr G.tb, .int .i64 0, .int .i64 1] w fun r w' => r = .returned (.int .i64 0) ∧ FS G w' #[iSo G.so, .nilIface, .nilIface, .nilIface, .nilIface, .nilIface, .nilIface, .nilIface, .nilIface, .nilIface, .nilIface, .nilIface, .nilIface, .nilIface, .nilIface, .nilIface] 1 0 0 rv v1 v2 ∧ Turn [G.tb, G.so] w w' := by
  have n1 := h_ne h.tb h.so (by decide)
  have n2 := h_ne h.tb h.k1 (by decide)
  have n3 := h_ne h.tb h.k2 (by decide)
  have n4 := h_ne h.so h.k1 (by decide)
  have n5 := h_ne h.so h.k2 (by decide)
  have hcl : w.cell? ⟨G.so, 0, none⟩ = some (.int .i64 0) := h_cell h.so 0 rfl
  have hst := set_so G.tb G.kn 0 G.so 0 _ w h.tb (by decide) rfl hcl (h_fz h.so 0) (by decide) (by decide) n1
  refine (put_any G.tb G.kn 0 G.th N _ 133 G.so tr fs used now last 1 D _ w h.tb hK hM (by decide) (by decide) hlk hst).mono ?_
  rintro r w' ⟨rfl, rfl⟩
  have hT := tb_set (s_other (c := G.so) (i := 0) (v := .int .i64 (0 + 1)) h.tb n1) 0 (iSo G.so)
  have hs : SoAt (w.setCell ⟨G.so, 0, none⟩ (.int .i64 (0 + 1))) G.so 1 rv := by simpa using h_set h.so 0 (.int .i64 (0 + 1))
  exact ⟨rfl, ⟨hT, s_other hs n1.symm, s_other (s_other h.k1 n4.symm) n2.symm, s_other (s_other h.k2 n5.symm) n3.symm⟩, (Turn.set w G.so 0 _ (by simp)).trans (Turn.set _ G.tb _ _ (by simp))⟩
theorem put_1 (h : FS G w #[iSo G.so, .nilIface, .nilIface, .nilIface, .nilIface, .nilIface, .nilIface, .nilIface, .nilIface, .nilIface, .nilIface, .nilIface, .nilIface, .nilIface, .nilIface, .nilIface] 1 0 0 rv v1 v2) (hK : KnAt w G.kn tr fs used now G.th last) (hM : w.ownsMap Tryz.prog 3 R G.th N D) (hlk : lookT D (ik 2) = iSk G.s1) (hne : G.s1 ≠ G.s2) :
    Calls Tryz.prog 46 #[ptr G.tb, .int .i64 1, .int .i64 2] w fun r w' => r = .returned (.int .i64 0) ∧ FS G w' #[iSo G.so, iSk G.s1, .nilIface, .nilIface, .nilIface, .nilIface, .nilIface, .nilIface, .nilIface, .nilIface, .nilIface, .nilIface, .nilIface, .nilIface, .nilIface, .nilIface] 1 1 0 rv v1 v2 ∧ Turn [G.tb, G.s1] w w' := by
  have n1 := h_ne h.tb h.so (by decide)
  have n2 := h_ne h.tb h.k1 (by decide)
  have n3 := h_ne h.tb h.k2 (by decide)
  have n4 := h_ne h.so h.k1 (by decide)
  have n5 := h_ne h.so h.k2 (by decide)
  have hcl : w.cell? ⟨G.s1, 0, none⟩ = some (.int .i64 0) := h_cell h.k1 0 rfl
  have hst := set_sk G.tb G.kn 1 G.s1 0 _ w h.tb (by decide) rfl hcl (h_fz h.k1 0) (by decide) (by decide) n2
  refine (put_any G.tb G.kn 1 G.th N _ 139 G.s1 tr fs used now last 2 D _ w h.tb hK hM (by decide) (by decide) hlk hst).mono ?_
  rintro r w' ⟨rfl, rfl⟩
  have hT := tb_set (s_other (c := G.s1) (i := 0) (v := .int .i64 (0 + 1)) h.tb n2) 1 (iSk G.s1)
  have hs : SkAt (w.setCell ⟨G.s1, 0, none⟩ (.int .i64 (0 + 1))) G.s1 1 v1 := by simpa using h_set h.k1 0 (.int .i64 (0 + 1))
  exact ⟨rfl, ⟨hT, s_other (s_other h.so n4) n1.symm, s_other hs n2.symm, s_other (s_other h.k2 hne.symm) n3.symm⟩, (Turn.set w G.s1 0 _ (by simp)).trans (Turn.set _ G.tb _ _ (by simp))⟩
theorem put_2 (h : FS G w #[iSo G.so, iSk G.s1, .nilIface, .nilIface, .nilIface, .nilIface, .nilIface, .nilIface, .nilIface, .nilIface, .nilIface, .nilIface, .nilIface, .nilIface, .nilIface, .nilIface] 1 1 0 rv v1 v2) (hK : KnAt w G.kn tr fs used now G.th last) (hM : w.ownsMap Tryz.prog 3 R G.th N D) (hlk : lookT D (ik 3) = iSk G.s2) (hne : G.s1 ≠ G.s2) :
    Calls Tryz.prog 46 #[ptr G.tb, .int .i64 2, .int .i64 3] w fun r w' => r = .returned (.int .i64 0) ∧ FS G w' #[iSo G.so, iSk G.s1, iSk G.s2, .nilIface, .nilIface, .nilIface, .nilIface, .nilIface, .nilIface, .nilIface, .nilIface, .nilIface, .nilIface, .nilIface, .nilIface, .nilIface] 1 1 1 rv v1 v2 ∧ Turn [G.tb, G.s2] w w' := by
  have n1 := h_ne h.tb h.so (by decide)
  have n2 := h_ne h.tb h.k1 (by decide)
  have n3 := h_ne h.tb h.k2 (by decide)
  have n4 := h_ne h.so h.k1 (by decide)
  have n5 := h_ne h.so h.k2 (by decide)
  have hcl : w.cell? ⟨G.s2, 0, none⟩ = some (.int .i64 0) := h_cell h.k2 0 rfl
  have hst := set_sk G.tb G.kn 2 G.s2 0 _ w h.tb (by decide) rfl hcl (h_fz h.k2 0) (by decide) (by decide) n3
  refine (put_any G.tb G.kn 2 G.th N _ 139 G.s2 tr fs used now last 3 D _ w h.tb hK hM (by decide) (by decide) hlk hst).mono ?_
  rintro r w' ⟨rfl, rfl⟩
  have hT := tb_set (s_other (c := G.s2) (i := 0) (v := .int .i64 (0 + 1)) h.tb n3) 2 (iSk G.s2)
  have hs : SkAt (w.setCell ⟨G.s2, 0, none⟩ (.int .i64 (0 + 1))) G.s2 1 v2 := by simpa using h_set h.k2 0 (.int .i64 (0 + 1))
  exact ⟨rfl, ⟨hT, s_other (s_other h.so n5) n1.symm, s_other (s_other h.k1 hne) n2.symm, s_other hs n3.symm⟩, (Turn.set w G.s2 0 _ (by simp)).trans (Turn.set _ G.tb _ _ (by simp))⟩
end
end Go.Proofs.YteimilnecahifaaGreatDoor

namespace Go.Proofs.YteimilnecahifaaGreatDoor
open Go.RowKit Go.Shelf Go.Maps

def stats (G : Gh) : List Nat := [G.p, G.m, G.kn, G.tb, G.so, G.s1, G.s2, G.th, G.fb, G.rb, G.pg, G.an, G.ab]
/-- The process; 'fresh': main has not been told the answer of its first call yet, this time. -/
structure PB (G : Gh) (w : World) (fresh : Bool) (k : KC) (held peak steps : Int) (rv v1 v2 : Value) : Prop where
  pr : PrAt w G.p G.kn G.tb G.args G.env G.cwd G.l1 G.l2 G.l3 held peak G.box G.kin G.isChild (ptr G.m)
  mc : McAt w G.m G.p G.main (.slice (some ⟨G.pg, 0, none⟩) 1 G.pc) (if fresh then 0 else 1) .nilFunc true steps false 0
  past : w.ownsRow 0 148 1 (.slice (some ⟨G.pg, 0, none⟩) 1 G.pc) 1 [ptr G.an]
  an : AnAt w G.an G.ans.num G.ansv G.ans.err
  anb : ByAt w G.ansv G.ans.bytes
  anl : G.ans.bytes.length ≤ 1073741824
  abk : ∀ b off n c, G.ansv = .slice (some ⟨b, off, none⟩) n c → b = G.ab
  act : ∃ ka, KI G w ka rv v1 v2 ∧ (fresh = true → execS G.faults k G.first = (G.ans, ka)) ∧ (fresh = false → ka = k)
  base : G.base ≤ w.heap.size
  stat : ∀ b ∈ stats G, b < G.base
  nab : v1.ownBlock ≠ some G.ab ∧ v2.ownBlock ≠ some G.ab
  fm : G.fb ≠ G.m ∧ G.rb ≠ G.m ∧ G.fb ≠ G.p ∧ G.rb ≠ G.p ∧ G.ab ≠ G.m ∧ G.ab ≠ G.p ∧ G.ab ≠ G.kn ∧ G.ab ≠ G.so ∧ G.ab ≠ G.s1 ∧ G.ab ≠ G.s2
/-- What calls may turn. -/
def privL (G : Gh) (v1 v2 : Value) : List Nat := G.p :: G.m :: G.kn :: G.so :: G.s1 :: G.s2 :: (v1.ownBlock.toList ++ v2.ownBlock.toList)
theorem mem_privL {G : Gh} {v1 v2 : Value} {b : Nat} : b ∈ privL G v1 v2 ↔ b = G.p ∨ b = G.m ∨ b = G.kn ∨ b = G.so ∨ b = G.s1 ∨ b = G.s2 ∨ v1.ownBlock = some b ∨ v2.ownBlock = some b := by
  simp [privL]

section
variable {G : Gh} {w : World} {fresh : Bool} {k : KC} {held peak steps : Int} {rv v1 v2 : Value}
theorem PB.lts (h : PB G w fresh k held peak steps rv v1 v2) : G.p < G.base ∧ G.m < G.base ∧ G.kn < G.base ∧ G.tb < G.base ∧ G.so < G.base ∧ G.s1 < G.base ∧ G.s2 < G.base ∧ G.th < G.base ∧ G.fb < G.base ∧ G.rb < G.base ∧ G.pg < G.base ∧ G.an < G.base ∧ G.ab < G.base := by
  have := h.stat
  simp only [stats, List.forall_mem_cons] at this
  obtain ⟨a1, a2, a3, a4, a5, a6, a7, a8, a9, b1, b2, b3, b4, _⟩ := this
  exact ⟨a1, a2, a3, a4, a5, a6, a7, a8, a9, b1, b2, b3, b4⟩
/-- The process stands where only others' blocks are turned. -/
theorem PB.keep (h : PB G w fresh k held peak steps rv v1 v2) {S : List Nat} {w' : World} (hT : Turn S w w') (hS : ∀ b ∈ S, G.base ≤ b ∧ v1.ownBlock ≠ some b ∧ v2.ownBlock ≠ some b) : PB G w' fresh k held peak steps rv v1 v2 := by
  obtain ⟨a1, a2, a3, a4, a5, a6, a7, a8, a9, b1, b2, b3, b4⟩ := h.lts
  have hn : ∀ x, x < G.base → x ∉ S := fun x hx hm => by have := (hS x hm).1; omega
  obtain ⟨ka, hk, h1, h2⟩ := h.act
  have hpg : ∀ g, (Value.slice (some ⟨G.pg, 0, none⟩) 1 G.pc).ownBlock = some g → g ∉ S := fun g hg => by
    have e : G.pg = g := by simpa [Value.ownBlock] using hg
    exact hn g (by omega)
  exact { pr := hT.ob h.pr (hn _ a1), mc := hT.ob h.mc (hn _ a2), past := own_turn h.past hT hpg, an := hT.ob h.an (hn _ b3), anb := h.anb.turn hT (fun b off n c e => hn b (by rw [h.abk b off n c e]; exact b4)), anl := h.anl, abk := h.abk, act := ⟨ka, hk.keep hT (fun b hb => ⟨fun e => hn _ a3 (e ▸ hb), fun e => hn _ a5 (e ▸ hb), fun e => hn _ a6 (e ▸ hb), fun e => hn _ a7 (e ▸ hb), fun e => hn _ a4 (e ▸ hb), fun e => hn _ a9 (e ▸ hb), fun e => hn _ b1 (e ▸ hb), (hS b hb).2.1, (hS b hb).2.2⟩), h1, h2⟩, base := Nat.le_trans h.base hT.size, stat := h.stat, nab := h.nab, fm := h.fm }
theorem PB.nem (h : PB G w fresh k held peak steps rv v1 v2) : G.m ≠ G.p ∧ G.m ≠ G.kn ∧ G.m ≠ G.tb ∧ G.m ≠ G.so ∧ G.m ≠ G.s1 ∧ G.m ≠ G.s2 ∧ v1.ownBlock ≠ some G.m ∧ v2.ownBlock ≠ some G.m ∧ G.pg ≠ G.m ∧ G.an ≠ G.m ∧ G.p ≠ G.kn ∧ G.p ≠ G.so ∧ G.p ≠ G.s1 ∧ G.p ≠ G.s2 ∧ v1.ownBlock ≠ some G.p ∧ v2.ownBlock ≠ some G.p := by
  obtain ⟨ka, hk, _⟩ := h.act
  exact ⟨h_ne h.mc h.pr (by decide), h_ne h.mc hk.kn (by decide), h_ne h.mc hk.tb (by decide), h_ne h.mc hk.so (by decide), h_ne h.mc hk.k1 (by decide), h_ne h.mc hk.k2 (by decide), row_ne hk.o1 h.mc (by decide), row_ne hk.o2 h.mc (by decide), fun e => row_ne h.past h.mc (by decide) (by rw [← e]; rfl), h_ne h.an h.mc (by decide), h_ne h.pr hk.kn (by decide), h_ne h.pr hk.so (by decide), h_ne h.pr hk.k1 (by decide), h_ne h.pr hk.k2 (by decide), row_ne hk.o1 h.pr (by decide), row_ne hk.o2 h.pr (by decide)⟩
theorem PB.tbc (h : PB G w fresh k held peak steps rv v1 v2) : w.cell? ⟨G.p, 1, none⟩ = some (ptr G.tb) := h_cell h.pr 1 rfl
theorem PB.pcell (h : PB G w fresh k held peak steps rv v1 v2) : w.cell? ⟨G.pg, 0, none⟩ = some (ptr G.an) := by
  rcases h.past.2 with ⟨e, _⟩ | ⟨g, cap, cur, e, _, hg, _, _, hs, ht⟩
  · cases e
  · cases e
    have : cur.toList[0]? = some (ptr G.an) := by
      have h2 : (cur.toList.take (1 * 1))[0]? = some (ptr G.an) := by rw [ht]; rfl
      simpa using h2
    simp [World.cell?, hg]
    simpa using this
/-- Behind what a call has turned the process stands, its first call told. -/
theorem PB.next (h : PB G w fresh k held peak steps rv v1 v2) {S : List Nat} {w' : World} {k' : KC} {rv' v1' v2' : Value} {steps' : Int} (hT : Turn S w w') (hS : ∀ b ∈ S, b = G.m ∨ b = G.kn ∨ b = G.so ∨ b = G.s1 ∨ b = G.s2 ∨ v1.ownBlock = some b ∨ v2.ownBlock = some b)
    (hm : McAt w' G.m G.p G.main (.slice (some ⟨G.pg, 0, none⟩) 1 G.pc) 1 .nilFunc true steps' false 0) (hk : KI G w' k' rv' v1' v2') (h1 : ∀ b, v1'.ownBlock = some b → v1.ownBlock = some b ∨ w.heap.size ≤ b) (h2 : ∀ b, v2'.ownBlock = some b → v2.ownBlock = some b ∨ w.heap.size ≤ b) : PB G w' false k' held peak steps' rv' v1' v2' := by
  obtain ⟨a1, a2, a3, a4, a5, a6, a7, a8, a9, b1, b2, b3, b4⟩ := h.lts
  obtain ⟨n1, n2, n3, n4, n5, n6, n7, n8, n9, n10, n11, n12, n13, n14, n15, n16⟩ := h.nem
  obtain ⟨ka, hka, _⟩ := h.act
  have hb := h.base
  have hfm := h.fm
  have hnab := h.nab
  have hp : G.p ∉ S := fun e => by rcases hS _ e with e | e | e | e | e | e | e <;> first | exact absurd e.symm n1 | exact n11 e | exact n12 e | exact n13 e | exact n14 e | exact n15 e | exact n16 e
  have han : G.an ∉ S := fun e => by
    rcases hS _ e with e | e | e | e | e | e | e
    · exact n10 e
    · exact h_ne h.an hka.kn (by decide) e
    · exact h_ne h.an hka.so (by decide) e
    · exact h_ne h.an hka.k1 (by decide) e
    · exact h_ne h.an hka.k2 (by decide) e
    · exact row_ne hka.o1 h.an (by decide) e
    · exact row_ne hka.o2 h.an (by decide) e
  have hpn : ∀ {b T : Nat} {cs : Array Value} {fz : Nat × Nat}, w.heap[b]? = some (.cells cs T fz) → T ≠ 148 → G.pg ≠ b := fun hx ht e => row_ne h.past hx ht (by rw [← e]; rfl)
  have hpg : G.pg ∉ S := fun e => by
    rcases hS _ e with e | e | e | e | e | e | e
    · exact n9 e
    · exact hpn hka.kn (by decide) e
    · exact hpn hka.so (by decide) e
    · exact hpn hka.k1 (by decide) e
    · exact hpn hka.k2 (by decide) e
    · rcases hka.o1.2 with ⟨e1, _⟩ | ⟨g, cap, cur, e1, _, hg, _⟩
      · rw [e1] at e; cases e
      · have e2 : g = G.pg := by rw [e1] at e; simpa [Value.ownBlock] using e
        exact hpn hg (by decide) e2.symm
    · rcases hka.o2.2 with ⟨e1, _⟩ | ⟨g, cap, cur, e1, _, hg, _⟩
      · rw [e1] at e; cases e
      · have e2 : g = G.pg := by rw [e1] at e; simpa [Value.ownBlock] using e
        exact hpn hg (by decide) e2.symm
  have hab : G.ab ∉ S := fun e => by rcases hS _ e with e | e | e | e | e | e | e <;> first | exact hfm.2.2.2.2.1 e | exact hfm.2.2.2.2.2.2.1 e | exact hfm.2.2.2.2.2.2.2.1 e | exact hfm.2.2.2.2.2.2.2.2.1 e | exact hfm.2.2.2.2.2.2.2.2.2 e | exact hnab.1 e | exact hnab.2 e
  exact { pr := hT.ob h.pr hp, mc := hm, past := own_turn h.past hT (fun g hg e => hpg ((show G.pg = g by simpa [Value.ownBlock] using hg) ▸ e)), an := hT.ob h.an han, anb := h.anb.turn hT (fun b off n c e hm => hab ((h.abk b off n c e) ▸ hm)), anl := h.anl, abk := h.abk, act := ⟨k', hk, fun e => (by cases e), fun _ => rfl⟩, base := Nat.le_trans h.base hT.size, stat := h.stat, nab := ⟨fun e => (h1 _ e).elim hnab.1 (fun e => by omega), fun e => (h2 _ e).elim hnab.2 (fun e => by omega)⟩, fm := h.fm }
end
end Go.Proofs.YteimilnecahifaaGreatDoor

namespace Go.Proofs.YteimilnecahifaaGreatDoor
open Go.RowKit Go.Shelf Go.Maps

theorem readS_err (l : List (Int × Int)) (k : KC) (m : Nat) : (readS l k m).1.err = 0 ∨ (readS l k m).1.err = 9 := by
  unfold readS
  split
  · exact .inl rfl
  · exact befS_err l k.used m
theorem writeS_err (l : List (Int × Int)) (k : KC) (e : Bool) (b : List UInt8) : (writeS l k e b).1.err = 0 ∨ (writeS l k e b).1.err = 9 := by
  unfold writeS
  split
  · exact .inl rfl
  · exact befS_err l k.used b.length
theorem cf_write (z : Array Value) (u : World) : (callFunc 239 z).run Tryz.prog u = .ok (.enter 239 z) u := by kernel_rfl

section
variable {G : Gh} {w : World} {k : KC} {held peak steps : Int} {rv v1 v2 : Value}
end
end Go.Proofs.YteimilnecahifaaGreatDoor

namespace Go.Proofs.YteimilnecahifaaGreatDoor
open Go.RowKit Go.Shelf Go.Maps
section
variable {G : Gh} {w : World} {k : KC} {held peak steps : Int} {rv v1 v2 : Value}

structure WrQ1 (G : Gh) (w : World) (k : KC) (rv v1 v2 : Value) (bs : List UInt8) (a : Nat) (u : World) (v' : Value) : Prop where
  an : AnAt u a (writeS G.faults k false bs).1.num (.slice none 0 0) (writeS G.faults k false bs).1.err
  ki : KI G u (writeS G.faults k false bs).2 rv v' v2
  at' : ∀ b, v'.ownBlock = some b → v1.ownBlock = some b ∨ w.heap.size ≤ b
  turn : Turn (G.m :: G.kn :: G.s1 :: v1.ownBlock.toList) w u
theorem ask_write1 (h : PB G w false k held peak steps rv v1 v2) (bs : List UInt8) (hb0 : bs ≠ []) (hL : bs.length ≤ 1073741824) (hO : k.out.length ≤ 549755813888) (h0 : 0 ≤ steps) (h1 : steps < 4611686018427387904) {W : World} {a b c : Nat} {kv : Value} (hX : Turn [] w W) (x1 : W.cell? ⟨a, 0, none⟩ = some (ptr G.p)) (x2 : W.cell? ⟨b, 0, none⟩ = some (.int .i64 1)) (x3 : W.cell? ⟨c, 0, none⟩ = some kv) (ha : w.heap.size ≤ a) (hb : w.heap.size ≤ b) (hc : w.heap.size ≤ c) (hkv : W.ownsRow w.heap.size 5 1 kv bs.length (u8s bs)) :
    Calls Tryz.prog 238 #[ptr G.p, .func (.func 239) #[] #[ptr a, ptr b, ptr c]] W fun e w' => ∃ an q' u', e = .returned (ptr an) ∧ (∃ v', WrQ1 G w k rv v1 v2 bs an u' v') ∧ McAt u' G.m G.p G.main (.slice (some ⟨G.pg, 0, none⟩) 1 G.pc) 1 .nilFunc true (steps + 1) false 0 ∧ w' = u'.drewN q' := by
  obtain ⟨n1, n2, n3, n4, n5, n6, n7, n8, n9, n10, n11, n12, n13, n14, n15, n16⟩ := h.nem
  have hfm := h.fm
  have hlt := h.lts
  have hbs := h.base
  obtain ⟨ka, hk, _, he⟩ := h.act
  obtain rfl := he rfl
  refine pask_once (hX.ob h.pr (by simp)) (hX.ob h.mc (by simp)) (by decide) h0 h1 (cf_write _) ?_
  intro u hu hTu
  have hTw : Turn [G.m] w u := (hX.mono (by simp)).trans hTu
  have hku : KI G u ka rv v1 v2 := hk.keep hTw (by
    intro b hb
    have e : b = G.m := by simpa using hb
    subst e
    exact ⟨n2, n4, n5, n6, n3, hfm.1.symm, hfm.2.1.symm, n7, n8⟩)
  have hku2 : u.ownsRow w.heap.size 5 1 kv bs.length (u8s bs) := own_turn hkv hTu (fun g hg e => by have := own_ge hkv hg; simp at e; omega)
  have hsz := hTw.size
  refine (write1_k1 hku kv bs (by_own hku2) hb0 hL hO (fun b off n c e => ?_) (hTw.cell h.tbc (by simpa using n1.symm)) (hTu.cell x1 (by simp; omega)) (hTu.cell x2 (by simp; omega)) (hTu.cell x3 (by simp; omega))).mono ?_
  · have hge : w.heap.size ≤ b := by
      rcases hkv.2 with ⟨e1, _⟩ | ⟨g, cap, cur, e1, hg, _⟩
      · rw [e1] at e; cases e
      · rw [e1] at e; cases e; exact hg
    omega
  rintro e u' ⟨an, v', rfl, ha, hge, hki, hat, hT⟩
  have herr := writeS_err G.faults ka false bs
  refine ⟨an, _, rfl, h_cell ha 10 rfl, by omega, by omega, hT.ob hu (by simp; exact ⟨n2, n5, n7⟩), v', ha, hki, ?_, (hTw.mono (by simp)).trans (hT.mono (fun x hx => by simp at hx ⊢; exact .inr hx))⟩
  intro x hx
  rcases hat with h1 | ⟨g, h1, h2⟩
  · exact .inl (h1.symm.trans hx)
  · rw [hx] at h1; cases h1; exact .inr (Nat.le_trans hsz h2)

set_option maxRecDepth 100000 in
set_option maxHeartbeats 4000000 in
theorem pwrite_once1 (h : PB G w false k held peak steps rv v1 v2) (b : Value) (bs : List UInt8) (hb : ByAt w b bs) (hb0 : bs ≠ []) (hL : bs.length ≤ 1073741824) (hO : k.out.length ≤ 549755813888) (h0 : 0 ≤ steps) (h1 : steps < 4611686018427387904) :
    Calls Tryz.prog 218 #[ptr G.p, .int .i64 1, b] w fun e w' => ∃ v', e = .returned (.tuple #[.int .i64 (writeS G.faults k false bs).1.num, .int .i64 (writeS G.faults k false bs).1.err]) ∧ PB G w' false (writeS G.faults k false bs).2 held peak (steps + 1) rv v' v2 ∧ (∀ b, v'.ownBlock = some b → v1.ownBlock = some b ∨ w.heap.size ≤ b) ∧ Turn (G.m :: G.kn :: G.s1 :: v1.ownBlock.toList) w w' := by
  have hmf : ∀ (fn : Fn) (first cap : Array Value) (w : World), (Instr.makeFunc fn first cap).run Tryz.prog w = .ok (.func fn first cap) w := fun _ _ _ _ => rfl
  have hT0 : Turn [] w ((w.alloc (.cells #[ptr G.p] 76)).alloc (.cells #[.int .i64 1] 3)) := (Turn.alloc w _).trans (Turn.alloc _ _)
  have hr := pretold_none (hT0.ob h.pr (by simp)) (hT0.ob h.mc (by simp)) (by decide)
  have q1 := an_nil
  have HH := Lib.hid h
  have hask := fun (W : World) (a c : Nat) kv hX x1 x2 x3 ha hbb hc hkv => ask_write1 h bs hb0 hL hO h0 h1 (W := W) (a := a) (b := w.heap.size + 1) (c := c) (kv := kv) hX x1 x2 x3 ha hbb hc hkv
  have HASK := Lib.hid hask
  obtain ⟨xb, cb, rfl⟩ := hb.shape
  have HB := Lib.hid hb
  clear h hask hb
  go_enter Tryz.func218, Tryz.ntmps218
  go_wp2_with (go_at_call 237; refine hr.mono ?_; rintro e w' ⟨rfl, q, hw'⟩; rw [hw']; clear hw')
  have hTX : Turn [] w (((w.alloc (.cells #[ptr G.p] 76)).alloc (.cells #[.int .i64 1] 3)).drewN q) := hT0.drewN q
  have x1 : (((w.alloc (.cells #[ptr G.p] 76)).alloc (.cells #[.int .i64 1] 3)).drewN q).cell? ⟨w.heap.size, 0, none⟩ = some (ptr G.p) := al_cell _ (World.cell?_alloc_new w #[ptr G.p] 76 0)
  have x2 : (((w.alloc (.cells #[ptr G.p] 76)).alloc (.cells #[.int .i64 1] 3)).drewN q).cell? ⟨w.heap.size + 1, 0, none⟩ = some (.int .i64 1) := by
    have := World.cell?_alloc_new (w.alloc (.cells #[ptr G.p] 76)) #[.int .i64 1] 3 0
    have e : (w.alloc (.cells #[ptr G.p] 76)).heap.size = w.heap.size + 1 := by simp
    rw [e] at this; exact this
  have hsz : (((w.alloc (.cells #[ptr G.p] 76)).alloc (.cells #[.int .i64 1] 3)).drewN q).heap.size = w.heap.size + 2 := by simp
  generalize ((w.alloc (.cells #[ptr G.p] 76)).alloc (.cells #[.int .i64 1] 3)).drewN q = X at hTX x1 x2 hsz ⊢
  refine (bclone_by _ bs X hL (HB.out.turn hTX (by simp))).mono ?_
  rintro e w2 ⟨kv, rfl, hkv, hb2⟩
  have hT2 : Turn [] w w2 := hTX.trans (Turn.below hb2)
  have s2 := hb2.size
  have y1 := (Turn.below (S := []) hb2).cell x1 (by simp)
  have y2 := (Turn.below (S := []) hb2).cell x2 (by simp)
  obtain ⟨xk, ck, rfl⟩ := own_shape hkv
  have hT3 : Turn [] w2 (w2.alloc (.cells #[.slice xk bs.length ck] 27)) := Turn.alloc w2 _
  have y3b : (w2.alloc (.cells #[.slice xk bs.length ck] 27)).cell? ⟨w2.heap.size, 0, none⟩ = some (.slice xk bs.length ck) := World.cell?_alloc_new w2 #[.slice xk bs.length ck] 27 0
  have ha := HASK.out (w2.alloc (.cells #[.slice xk bs.length ck] 27)) w.heap.size w2.heap.size _ (hT2.trans hT3) (hT3.cell y1 (by simp)) (hT3.cell y2 (by simp)) y3b (Nat.le_refl _) (Nat.le_succ _) hT2.size (own_less0 (own_turn hkv hT3 (by simp)) (by omega))
  have y1b := hT3.cell y1 (by simp)
  clear hr hT0 hTX x1 x2 hkv hb2 hT3 HASK HB y1
  go_wp2_with (go_at_call 238; refine ha.mono ?_; rintro e w' ⟨an, q', u, rfl, ⟨v', hQ⟩, hM, hw'⟩; rw [hw']; clear hw')
  obtain ⟨hA, hki, hat, hTu⟩ := hQ
  have hA' : AnAt (u.drewN q') an (writeS G.faults k false bs).1.num (.slice none 0 0) (writeS G.faults k false bs).1.err := hA
  have hki' : KI G (u.drewN q') (writeS G.faults k false bs).2 rv v' v2 := hki.keep (S := []) ((Turn.refl [] u).drewN q') (by simp)
  have hM' : McAt (u.drewN q') G.m G.p G.main (.slice (some ⟨G.pg, 0, none⟩) 1 G.pc) 1 .nilFunc true (steps + 1) false 0 := hM
  have hTu' : Turn (G.m :: G.kn :: G.s1 :: v1.ownBlock.toList) w (u.drewN q') := hTu.drewN q'
  generalize u.drewN q' = U at hA' hki' hM' hTu' ⊢
  have d0 := h_cell hA' 0 rfl
  have d9 := h_cell hA' 10 rfl
  have HP := Lib.hid (And.intro hki' (And.intro hM' (And.intro hTu' hat)))
  clear hA hki hM hTu hA' hki' hM' hTu' hat ha
  generalize hAe : writeS G.faults k false bs = A at *
  have HAe := Lib.hid hAe
  clear hAe
  go_quiet (fail)
  go_wp2
  go_ret2
  have eA := HAe.out
  subst eA
  obtain ⟨hki, hM, hTu, hat⟩ := HP.out
  have hT4 : Turn (G.m :: G.kn :: G.s1 :: v1.ownBlock.toList) w (U.drewN nq) := hTu.drewN nq
  exact ⟨v', rfl, HH.out.next hT4 (fun b hb => by simp at hb; rcases hb with h | h | h | h <;> simp [h]) hM (hki.keep (S := []) ((Turn.refl [] U).drewN nq) (by simp)) hat (fun b h => .inl h), hat, hT4⟩

/-- A Write of the descriptor 1. -/
theorem pwrite_B1 {fresh : Bool} (h : PB G w fresh k held peak steps rv v1 v2) (b : Value) (bs : List UInt8) (hb : ByAt w b bs) (hb0 : bs ≠ []) (hL : bs.length ≤ 1073741824) (hO : k.out.length ≤ 549755813888) (hf : fresh = true → G.first = .write false bs) (h0 : 0 ≤ steps) (h1 : steps < 4611686018427387904) :
    Calls Tryz.prog 218 #[ptr G.p, .int .i64 1, b] w fun e w' => ∃ v', e = .returned (.tuple #[.int .i64 (writeS G.faults k false bs).1.num, .int .i64 (writeS G.faults k false bs).1.err]) ∧ PB G w' false (writeS G.faults k false bs).2 held peak (steps + if fresh then 0 else 1) rv v' v2 ∧ (∀ b, v'.ownBlock = some b → v1.ownBlock = some b ∨ w.heap.size ≤ b) ∧ Turn (G.m :: G.kn :: G.s1 :: v1.ownBlock.toList) w w' := by
  cases fresh with
  | false => exact pwrite_once1 h b bs hb hb0 hL hO h0 h1
  | true =>
    obtain ⟨ka, hk, he, _⟩ := h.act
    have he := he rfl
    rw [hf rfl, execS_write] at he
    rw [he]
    have hnem := h.nem
    have hfm := h.fm
    refine (pwrite_told (fd := 1) (b := b) h.pr h.mc (by decide) (by decide) h.pcell hnem.2.2.2.2.2.2.2.2.1 hnem.2.2.2.2.2.2.2.2.2.1 (h_cell h.an 0 rfl) (h_cell h.an 10 rfl)).mono ?_
    rintro e w' ⟨rfl, hM, hT⟩
    have hkw : KI G w' ka rv v1 v2 := hk.keep hT (by
      intro b hb
      have e : b = G.m := by simpa using hb
      subst e
      exact ⟨hnem.2.1, hnem.2.2.2.1, hnem.2.2.2.2.1, hnem.2.2.2.2.2.1, hnem.2.2.1, hfm.1.symm, hfm.2.1.symm, hnem.2.2.2.2.2.2.1, hnem.2.2.2.2.2.2.2.1⟩)
    refine ⟨v1, rfl, ?_, fun b h => .inl h, hT.mono (by simp)⟩
    have := h.next hT (fun b hb => by simp at hb; simp [hb]) (by simpa using hM) hkw (fun b h => .inl h) (fun b h => .inl h)
    simpa using this
end
end Go.Proofs.YteimilnecahifaaGreatDoor
