/- Bytes that are taken out of a pipe, or off a source. -/
import Derived.Lib.OwnBridge
import Derived.Deep.DeepFit
import Derived.Test.YteimilnecahifaaGreatDoorFile
import Derived.Deep.AppendLies
import Derived.Deep.RegionLaw
import Derived.Deep.RegionHeld3
import Derived.RangeFuncNested
import Derived.RangeFuncBound
import Derived.RangeFuncCalls
import Derived.RangeFuncLeaves
namespace Go.Proofs.YteimilnecahifaaGreatDoor
open Go.RowKit Go.Shelf Go.Maps

theorem Turn.put {α : Type} [Inhabited α] (enc : α → Value) (w : World) (q g : Nat) (d : Array α) : Turn [g] w (Sort.putRow enc (Sort.ahead w q) g 0 d) :=
  ⟨rfl, rfl, rfl, by simp [Sort.putRow, Sort.mapBlock, Sort.ahead], fun k _ hk => by
    have hne : g ≠ k := fun e => hk (by simp [e])
    simp [Sort.putRow, Sort.mapBlock, Sort.ahead, Array.getElem?_modify, hne]⟩
/-- A copy of the first bytes of a slice. -/
theorem bclone_c (b o n c : Nat) (d : List UInt8) (w : World) (hd : d.length = n) (hn : n ≤ 1073741824) (hc : ∀ j, j < n → w.cell? ⟨b, o + j, none⟩ = some (.int .u8 ((d[j]?.getD 0).toNat : Int))) :
    Calls Tryz.prog 71 #[.slice (some ⟨b, o, none⟩) n c] w fun e w' => ∃ v', e = .returned v' ∧ w'.ownsRow w.heap.size 5 1 v' n (u8s d) ∧ Below w.heap.size w w' := by
  refine (Tryz.bytes_Clone_at ⟨b, o, none⟩ n c (d.map fun x => (x.toNat : Int)) w (by simpa using hd) (by omega) (fun i hi => ?_)).mono ?_
  · rw [Addr.add_lit, hc i hi]
    simp [List.getD, show i < d.length by omega]
  · rintro e w' ⟨v', rfl, h1, _, h3⟩
    refine ⟨v', rfl, ?_, h3⟩
    have : (d.map fun x => (x.toNat : Int)).map (Value.int .u8) = u8s d := by simp [u8s, Function.comp_def]
    rw [← this]; exact h1

theorem row_split {w : World} {base n : Nat} {v : Value} {d : List UInt8} (h : w.ownsRow base 5 1 v n (u8s d)) : d.length = n ∧ ((v = .slice none 0 0 ∧ n = 0) ∨ ∃ g cap, v = .slice (some ⟨g, 0, none⟩) n cap ∧ base ≤ g ∧ g < w.heap.size ∧ n ≤ cap ∧ cap ≤ maxLen ∧ ∀ j, j < n → w.cell? ⟨g, j, none⟩ = some (.int .u8 ((d[j]?.getD 0).toNat : Int))) := by
  have hl : d.length = n := by have := h.1; rw [u8s_length] at this; omega
  refine ⟨hl, ?_⟩
  rcases h.2 with ⟨e0, h0⟩ | ⟨g, cap, cur, rfl, hb, hg, hn, hm, hs, ht⟩
  · exact .inl ⟨e0, h0⟩
  · refine .inr ⟨g, cap, rfl, hb, h_lt hg, hn, hm, fun j hj => h_cell hg j ?_⟩
    have e1 : (cur.toList.take (n * 1))[j]? = (u8s d)[j]? := by rw [ht]
    rw [List.getElem?_take, if_pos (by omega), Array.getElem?_toList] at e1
    rw [e1]
    simp [u8s, show j < d.length by omega]

end Go.Proofs.YteimilnecahifaaGreatDoor

namespace Go.Proofs.YteimilnecahifaaGreatDoor
open Go.RowKit Go.Shelf Go.Maps

end Go.Proofs.YteimilnecahifaaGreatDoor

namespace Go.Proofs.YteimilnecahifaaGreatDoor
open Go.RowKit Go.Shelf Go.Maps

set_option maxRecDepth 100000 in
set_option maxHeartbeats 1000000 in
theorem write_err (k : Nat) (x : Value) (a : Option Addr) (L c room : Nat) (n e : Int) (Q : World → Prop) (w : World) (hL : 0 < L) (he : (e != 0) = true) (h1 : Calls Tryz.prog 269 #[x] w fun r w' => r = .returned (.bool true) ∧ w' = w)
    (h2 : Calls Tryz.prog 270 #[ptr k, x] w fun r w' => r = .returned (.tuple #[.int .i64 room, .int .i64 0]) ∧ ∃ q, w' = w.drewN q)
    (h3 : ∀ q, Calls Tryz.prog 271 #[ptr k, .int .i64 (min L room : Nat), .bool true] (w.drewN q) fun r w' => r = .returned (.tuple #[.int .i64 n, .int .i64 e]) ∧ Q w') :
    Calls Tryz.prog 259 #[ptr k, x, .slice a L c] w fun r w' => r = .returned (.tuple #[.int .i64 0, .int .i64 e]) ∧ Q w' := by
  have hL' : ((L : Int) == 0) = false := by simp; omega
  obtain ⟨mn, hmn⟩ : ∃ mn, mn = min L room := ⟨_, rfl⟩
  have hmin : min (L : Int) (room : Int) = (mn : Int) := by omega
  rw [← hmn] at h3
  have H3 := Lib.hid h3
  clear h3 hmn
  go_enter Tryz.func259, Tryz.ntmps259
  go_wp2_with (first
    | (go_at_call 269; refine h1.mono ?_; rintro r w2 ⟨rfl, hw2⟩; rw [hw2]; clear hw2)
    | (go_at_call 270; refine h2.mono ?_; rintro r w2 ⟨rfl, q, hw2⟩; have h4 := H3.out q; rw [← hw2] at h4; clear hw2)
    | (go_at_call 271; refine h4.mono ?_; rintro r w3 ⟨rfl, hQ⟩))
  refine bodyPost_ret (results_tmp2 rfl _ _ _) rfl ?_
  exact ⟨rfl, hQ⟩

set_option maxRecDepth 100000 in
set_option maxHeartbeats 1000000 in
theorem write_ok (k : Nat) (x : Value) (a : Addr) (L c room n : Nat) (Q Q2 : World → Prop) (w : World) (hL : 0 < L) (hc : L ≤ c) (hn : n ≤ L) (h1 : Calls Tryz.prog 269 #[x] w fun r w' => r = .returned (.bool true) ∧ w' = w)
    (h2 : Calls Tryz.prog 270 #[ptr k, x] w fun r w' => r = .returned (.tuple #[.int .i64 room, .int .i64 0]) ∧ ∃ q, w' = w.drewN q)
    (h3 : ∀ q, Calls Tryz.prog 271 #[ptr k, .int .i64 (min L room : Nat), .bool true] (w.drewN q) fun r w' => r = .returned (.tuple #[.int .i64 n, .int .i64 0]) ∧ Q w')
    (h4 : ∀ w1, Q w1 → Calls Tryz.prog 272 #[ptr k, x, .slice (some a) n c] w1 fun r w' => (∃ v, r = .returned v) ∧ Q2 w') :
    Calls Tryz.prog 259 #[ptr k, x, .slice (some a) L c] w fun r w' => r = .returned (.tuple #[.int .i64 n, .int .i64 0]) ∧ Q2 w' := by
  have hL' : ((L : Int) == 0) = false := by simp; omega
  obtain ⟨mn, hmn⟩ : ∃ mn, mn = min L room := ⟨_, rfl⟩
  have hmin : min (L : Int) (room : Int) = (mn : Int) := by omega
  rw [← hmn] at h3
  have H3 := Lib.hid h3
  have H4 := Lib.hid h4
  have hnc : ¬ (c : Int) < (n : Int) := by omega
  clear h3 hmn h4
  go_enter Tryz.func259, Tryz.ntmps259
  go_wp2_with (first
    | (go_at_call 269; refine h1.mono ?_; rintro r w2 ⟨rfl, hw2⟩; rw [hw2]; clear hw2)
    | (go_at_call 270; refine h2.mono ?_; rintro r w2 ⟨rfl, q, hw2⟩; have h5 := H3.out q; rw [← hw2] at h5; clear hw2)
    | (go_at_call 271; refine h5.mono ?_; rintro r w3 ⟨rfl, hQ⟩; have h6 := H4.out w3 hQ)
    | (go_at_call 272; refine h6.mono ?_; rintro r w4 ⟨⟨v, rfl⟩, hQ2⟩))
  refine bodyPost_ret (results_tmp2 rfl _ _ _) rfl ?_
  exact ⟨rfl, hQ2⟩
end Go.Proofs.YteimilnecahifaaGreatDoor

namespace Go.Proofs.YteimilnecahifaaGreatDoor
open Go.RowKit Go.Shelf Go.Maps

/-- Where all lies, and what befalls. -/
structure PF where
  B : Nat
  k : Nat
  fb : Nat
  th : Nat
  re : Nat
  we : Nat
  p : Nat
  tr : Value
  fv : Value
  l : List (Int × Int)
  now : Int
  last : Int
  rc : Int
structure PFok (F : PF) : Prop where
  kB : F.k < F.B
  fB : F.fb < F.B
  rB : F.re < F.B
  wB : F.we < F.B
  pB : F.p < F.B
  fk : F.fb ≠ F.k
  fp : F.fb ≠ F.p
  kinds : ∀ j, j < F.l.length → (F.l[j]?.getD (0, 0)).1 = 1 ∨ (F.l[j]?.getD (0, 0)).1 = 2
  rc0 : (F.rc == 0) = false
structure Pst (F : PF) (wc : Int) (w : World) (u : Nat) (d : List UInt8) (v : Value) : Prop where
  ok : PFok F
  hK : KnAt w F.k F.tr F.fv u F.now F.th F.last
  hF : Fl w F.fv F.fb F.l
  hR : ReAt w F.re F.rc F.p
  hW : WeAt w F.we wc F.p
  hP : PpAt w F.p v F.re F.we
  ho : w.ownsRow F.B 5 1 v d.length (u8s d)
  hB : F.B ≤ w.heap.size
  hu : u ≤ F.l.length
  hd : d.length ≤ 64
section
variable {F : PF} {wc : Int} {w w' : World} {u : Nat} {d : List UInt8} {v : Value}
theorem Pst.turn {S : List Nat} (h : Pst F wc w u d v) (hU : Turn S w w') (h1 : ∀ x, x ∈ S → F.B ≤ x) (h2 : ∀ g, v.ownBlock = some g → g ∉ S) : Pst F wc w' u d v := by
  have hno : ∀ x, x < F.B → x ∉ S := fun x hx e => by have := h1 x e; omega
  exact ⟨h.ok, hU.ob h.hK (hno _ h.ok.kB), h.hF.turn hU (hno _ h.ok.fB), hU.ob h.hR (hno _ h.ok.rB), hU.ob h.hW (hno _ h.ok.wB), hU.ob h.hP (hno _ h.ok.pB), own_turn h.ho hU h2, Nat.le_trans h.hB hU.size, h.hu, h.hd⟩
/-- The kernel alone has turned. -/
theorem Pst.kern (h : Pst F wc w u d v) {u' : Nat} (hK : KnAt w' F.k F.tr F.fv u' F.now F.th F.last) (hU : Turn [F.k] w w') (hu' : u' ≤ F.l.length) : Pst F wc w' u' d v := by
  have hk := h.ok.kB
  refine ⟨h.ok, hK, h.hF.turn hU (by simpa using h.ok.fk), hU.ob h.hR ?_, hU.ob h.hW ?_, hU.ob h.hP ?_, own_turn h.ho hU (fun g hg e => ?_), Nat.le_trans h.hB hU.size, hu', h.hd⟩
  · simpa using h_ne h.hR h.hK (by decide)
  · simpa using h_ne h.hW h.hK (by decide)
  · simpa using h_ne h.hP h.hK (by decide)
  · have := own_ge h.ho hg; simp at e; omega

end
end Go.Proofs.YteimilnecahifaaGreatDoor

namespace Go.Proofs.YteimilnecahifaaGreatDoor
open Go.RowKit Go.Shelf Go.Maps

set_option maxHeartbeats 1000000 in
theorem at_c (t k fd : Nat) (hs : Array Value) (x : Value) (w : World) (hT : TbAt w t k hs) (hfd : fd < 16) (hx : hs[fd]? = some x) :
    Calls Tryz.prog 258 #[ptr t, .int .i64 fd] w fun e w' => e = .returned x ∧ w' = w := by
  have c := tb_cell hT fd hx
  have h1 : (0 : Int) ≤ (fd : Int) := by omega
  have h2 : (fd : Int) < 16 := by omega
  have h3 : 0 ≤ (fd : Int) ∧ (fd : Int) < 16 := ⟨h1, h2⟩
  clear hT
  go_enter Tryz.func258, Tryz.ntmps258
  go_wp2
  go_ret
  exact ⟨rfl, rfl⟩

set_option maxHeartbeats 1000000 in
theorem gain_c (e : Nat) (c : Int) (w : World) (hc : w.cell? ⟨e, 0, none⟩ = some (.int .i64 c)) (hz : w.frozen? ⟨e, 0, none⟩ = false) (h0 : 0 ≤ c) (h1 : c < 4611686018427387904) :
    Calls Tryz.prog 308 #[ptr e] w fun r w' => (∃ v, r = .returned v) ∧ w' = w.setCell ⟨e, 0, none⟩ (.int .i64 (c + 1)) := by
  go_enter Tryz.func308, Tryz.ntmps308
  go_wp2
  go_end0
  exact ⟨⟨_, rfl⟩, rfl⟩
set_option maxHeartbeats 1000000 in
theorem lose_c (e : Nat) (c : Int) (w : World) (hc : w.cell? ⟨e, 0, none⟩ = some (.int .i64 c)) (hz : w.frozen? ⟨e, 0, none⟩ = false) (h0 : 0 ≤ c) (h1 : c < 4611686018427387904) :
    Calls Tryz.prog 309 #[ptr e] w fun r w' => r = .returned (.bool (c - 1 == 0)) ∧ w' = w.setCell ⟨e, 0, none⟩ (.int .i64 (c - 1)) := by
  go_enter Tryz.func309, Tryz.ntmps309
  go_wp2
  go_ret
  exact ⟨rfl, rfl⟩

theorem m_gain_so (e : Nat) (w : World) : (method 487 133 (ptr e) "toolchest/kern.gain").run Tryz.prog w = .ok (308, ptr e) w := by kernel_rfl
theorem m_lose_so (e : Nat) (w : World) : (method 487 133 (ptr e) "toolchest/kern.lose").run Tryz.prog w = .ok (309, ptr e) w := by kernel_rfl
set_option maxHeartbeats 1000000 in
theorem leave_nil (k : Nat) (w : World) : Calls Tryz.prog 101 #[ptr k, .nilIface] w fun r w' => (∃ v, r = .returned v) ∧ w' = w := by
  have hn := nil_nil
  go_enter Tryz.func101, Tryz.ntmps101
  go_wp2
  refine bodyPost_ret (results_none rfl _ _ _) rfl ?_
  exact ⟨⟨_, rfl⟩, rfl⟩

set_option maxRecDepth 100000 in
set_option maxHeartbeats 1000000 in
theorem set_so (t k fd e : Nat) (c : Int) (hs : Array Value) (w : World) (hT : TbAt w t k hs) (hfd : fd < 16) (hx : hs[fd]? = some .nilIface) (hc : w.cell? ⟨e, 0, none⟩ = some (.int .i64 c)) (hz : w.frozen? ⟨e, 0, none⟩ = false) (h0 : 0 ≤ c) (h1 : c < 4611686018427387904) (hne : t ≠ e) :
    Calls Tryz.prog 73 #[ptr t, .int .i64 fd, iSo e] w fun r w' => (∃ v, r = .returned v) ∧ w' = (w.setCell ⟨e, 0, none⟩ (.int .i64 (c + 1))).setCell ⟨t, 1 + fd, none⟩ (iSo e) := by
  have q1 := tb_cell hT fd hx
  have q3 : 0 ≤ (fd : Int) ∧ (fd : Int) < 16 := by omega
  have hT2 : TbAt (w.setCell ⟨e, 0, none⟩ (.int .i64 (c + 1))) t k hs := s_other hT hne
  have q4 := tb_cell hT2 fd hx
  have q5 := h_fz hT2 (1 + fd)
  have hT3 := tb_set hT2 fd (iSo e)
  have q6 := tb_kern hT3
  have hg := gain_c e c w hc hz h0 h1
  have hmm := m_gain_so
  clear hT hT2 hT3
  go_enter Tryz.func73, Tryz.ntmps73
  go_wp2_with (first
    | (go_at_call 308; refine hg.mono ?_; rintro r w2 ⟨⟨v, rfl⟩, hw2⟩; rw [hw2]; clear hw2)
    | (go_at_call 101; refine (leave_nil k _).mono ?_; rintro r w3 ⟨⟨v, rfl⟩, hw3⟩; rw [hw3]; clear hw3))
  go_end0
  exact ⟨⟨_, rfl⟩, rfl⟩

end Go.Proofs.YteimilnecahifaaGreatDoor

namespace Go.Proofs.YteimilnecahifaaGreatDoor
open Go.RowKit Go.Shelf Go.Maps

def lookT (D : DataW Value) (kl : Lit) : Value := match D.atKey kl (.held .nilIface) with | .held v => v | _ => .nilIface
theorem zeroT (w : World) : (zeroValue 143).run Tryz.prog w = .ok .nilIface w := by kernel_rfl
theorem underT : Tryz.prog.underlying 122 = some (.map 3 143) := Tryz.underlying122
theorem lookT_put_same {D : DataW Value} {k : Lit} (hD : IsMap D) (hk : WideAt.IsKeyLit k) (v : Value) : lookT (D.put k (.held v)) k = v := by simp [lookT, atKey_put_same hD hk]
theorem lookT_put_other {D : DataW Value} {k k' : Lit} (h : k' ≠ k) (d : DataW Value) : lookT (D.put k d) k' = lookT D k' := by simp [lookT, atKey_put_other h]
theorem lookTI {w : World} {b n : Nat} {D : DataW Value} (h : w.ownsMap Tryz.prog 3 R b n D) {i : Int} (hi : (Lit.int .i64 i).wf = true) :
    (Instr.lookup 122 (.map (some b)) (.int .i64 i) false).run Tryz.prog w = .ok (lookT D (ik i)) w := by
  obtain ⟨v, ps, hr, hv⟩ := h.lookup keyed3 underT (zeroT w) (zd := .held .nilIface) (zp := []) rfl (keyOf_int_mk Tryz.underlying3 hi)
  rw [hr]
  simp only [R, Option.some.injEq, Prod.mk.injEq] at hv
  rw [lookT, ← hv.1]

set_option maxHeartbeats 1000000 in
theorem inc_c (k : Nat) (last : Int) (w : World) (hc : w.cell? ⟨k, 5, none⟩ = some (.int .i64 last)) (hz : w.frozen? ⟨k, 5, none⟩ = false) (h0 : 0 ≤ last) (h1 : last < 4611686018427387904) :
    Calls Tryz.prog 100 #[.pointer (some ⟨k, 5, none⟩), .int .i64 1] w fun r w' => r = .returned (.int .i64 (last + 1)) ∧ w' = w.setCell ⟨k, 5, none⟩ (.int .i64 (last + 1)) := by
  have hw : IntKind.i64.wrap (last + 1) = last + 1 := by rw [IntKind.wrap_i64]; omega
  have hadd := run_call_add (P := Tryz.prog) Tryz.func130 (by kernel_rfl) (by kernel_rfl) (by kernel_rfl) .i64 (by kernel_rfl) (y := 1) (s := last + 1) hc hz (by simp [go_sem, hw])
  clear hw
  go_enter Tryz.func100, Tryz.ntmps100
  go_wp2
  go_ret
  exact ⟨rfl, rfl⟩

set_option maxRecDepth 100000 in
set_option maxHeartbeats 2000000 in
theorem add_c (k th N : Nat) (tr fs x : Value) (used now last : Int) (D : DataW Value) (w : World) (hK : KnAt w k tr fs used now th last) (hM : w.ownsMap Tryz.prog 3 R th N D) (hN : N < 1000000) (h0 : 0 ≤ last) (h1 : last < 4611686018427387904) :
    Calls Tryz.prog 70 #[ptr k, x] w fun r w' => r = .returned (.int .i64 (last + 1)) ∧ KnAt w' k tr fs used now th (last + 1) ∧ w'.ownsMap Tryz.prog 3 R th (N + 1) (D.put (ik (last + 1)) (.held x)) ∧ Turn [k, th] w w' := by
  have hne : th ≠ k := fun e => by
    obtain ⟨es, c, he, _⟩ := hM
    rw [e, show w.heap[k]? = _ from hK] at he; cases he
  have hi := inc_c k last w (h_cell hK 5 rfl) (h_fz hK 5) h0 h1
  have hK2 : KnAt (w.setCell ⟨k, 5, none⟩ (.int .i64 (last + 1))) k tr fs used now th (last + 1) := by simpa using h_set hK 5 (.int .i64 (last + 1))
  have c4 := h_cell hK2 4 rfl
  obtain ⟨w2, hrun, hown, hgrow⟩ := (hM.setCell (a := ⟨k, 5, none⟩) hne (.int .i64 (last + 1))).update keyed3 underT (by unfold maxLen; omega) (key := .int .i64 (last + 1)) (val := x) (keyOf_int_mk Tryz.underlying3 (WalkArith.wf_i64 (by omega))) (rfl : R _ = some (.held x, []))
  have hK3 : KnAt w2 k tr fs used now th (last + 1) := (hgrow.block k (h_lt hK2) (by simpa using fun e => hne e.symm)).trans hK2
  have hU : Turn [k, th] w w2 := (Turn.set w k 5 _ (by simp)).trans (Turn.grown hgrow (by simp))
  clear hM hK hgrow hK2
  go_enter Tryz.func70, Tryz.ntmps70
  go_wp2_with (go_at_call 100; refine hi.mono ?_; rintro r w3 ⟨rfl, hw3⟩; rw [hw3]; clear hw3)
  go_ret
  exact ⟨rfl, hK3, hown, hU⟩
end Go.Proofs.YteimilnecahifaaGreatDoor

namespace Go.Proofs.YteimilnecahifaaGreatDoor
open Go.RowKit Go.Shelf Go.Maps

set_option maxRecDepth 100000 in
set_option maxHeartbeats 2000000 in
theorem put_any (t k fd th N : Nat) (hs : Array Value) (T : Nat) (e : Nat) (tr fs : Value) (used now last n : Int) (D : DataW Value) (Q : World → Prop) (w : World) (hT : TbAt w t k hs) (hK : KnAt w k tr fs used now th last) (hM : w.ownsMap Tryz.prog 3 R th N D) (hfd : fd < 16) (hn : (Lit.int .i64 n).wf = true)
    (hlk : lookT D (ik n) = .iface T (ptr e)) (hset : Calls Tryz.prog 73 #[ptr t, .int .i64 fd, .iface T (ptr e)] w fun r w' => (∃ v, r = .returned v) ∧ Q w') :
    Calls Tryz.prog 46 #[ptr t, .int .i64 fd, .int .i64 n] w fun r w' => r = .returned (.int .i64 0) ∧ Q w' := by
  have q0 := tb_kern hT
  have q4 := h_cell hK 4 rfl
  have hl := lookTI hM hn
  rw [hlk] at hl
  have h1 : (0 : Int) ≤ (fd : Int) := by omega
  have h2 : (fd : Int) < 16 := by omega
  have hne := nil_eq
  clear hT hK hM
  go_enter Tryz.func46, Tryz.ntmps46
  go_wp2_with (first
    | (go_at_call 72; go_in)
    | (go_at_call 73; refine hset.mono ?_; rintro r w2 ⟨⟨v, rfl⟩, hQ⟩))
  go_ret
  exact ⟨rfl, hQ⟩

set_option maxRecDepth 100000 in
set_option maxHeartbeats 2000000 in
theorem twrite_c (t k fd : Nat) (hs : Array Value) (T e : Nat) (b : Value) (Q : Ending → World → Prop) (w : World) (hT : TbAt w t k hs) (hfd : fd < 16) (hx : hs[fd]? = some (.iface T (ptr e)))
    (hr : Calls Tryz.prog 259 #[ptr k, .iface T (ptr e), b] w fun r w' => ∃ (v1 h : Int), r = .returned (.tuple #[.int .i64 v1, .int .i64 h]) ∧ Q r w') :
    Calls Tryz.prog 240 #[ptr t, .int .i64 fd, b] w Q := by
  have q0 := tb_kern hT
  have ha := at_c t k fd hs _ w hT hfd hx
  have hne := nil_eq
  clear hT
  go_enter Tryz.func240, Tryz.ntmps240
  go_wp2_with (first
    | (go_at_call 258; refine ha.mono ?_; rintro r w2 ⟨rfl, hw2⟩; rw [hw2]; clear hw2)
    | (go_at_call 259; refine hr.mono ?_; rintro r w3 ⟨v1, h, rfl, hQ⟩))
  exact hQ

end Go.Proofs.YteimilnecahifaaGreatDoor

namespace Go.Proofs.YteimilnecahifaaGreatDoor
open Go.RowKit

/-- J abides whatever is done to block Bp, and new blocks. -/
def AbidesBox {β : Type} (Bp : Nat) (J : β → World → Prop) : Prop := ∀ s X Y, J s X → X.grownBy Y (some Bp) → J s Y

/-- The iterator gives, in order, a list that S tells, or a part of one that Sp tells, where a round has said 'no more'; between two rounds it writes block Bp alone. -/
def GivesBox {α : Type} (F : Fence) (n : Nat) (P : Program) (g : Nat) (lb : Array Value) (encs : α → Array Value) (Kp : World → World → Prop) (S Sp : List α → Prop) (N Bp : Nat) (w : World) : Prop :=
  ∀ (l : Nat) (J Jx : List α → World → Prop) (W : World), Below w.heap.size w W → AbidesBox Bp J → AbidesBox Bp Jx →
    (∀ pre x W1, J pre W1 → pre.length < N → YieldAt F (n - 1) P l (encs x) W1 fun e W' =>
      (e = .returned (.bool true) ∧ J (pre ++ [x]) W' ∧ Kp W1 W') ∨ (e = .returned (.bool false) ∧ Jx (pre ++ [x]) W')) →
    J [] W →
    CallsIn F n P g (#[.func (.yield l) #[] #[]] ++ lb) W fun e W' => (∃ v, e = .returned v) ∧ ((∃ xs, S xs ∧ J xs W') ∨ (∃ pre, Sp pre ∧ Jx pre W'))

variable {F : Fence} {n : Nat} {P : Program}

theorem abides_with {α : Type} {Bp l D : Nat} {I : List α → World → Prop} (hI : AbidesBox Bp I) (hl : Bp ≠ l) (hD : Bp ≠ D) (o o' : Obj) :
    AbidesBox Bp (fun pre W => I pre W ∧ W.heap[l]? = some o ∧ W.heap[D]? = some o') := fun s X Y h hg =>
  ⟨hI s X Y h.1 hg, (hg.block l (Array.getElem?_eq_some_iff.1 h.2.1).1 (by simp; omega)).trans h.2.1, (hg.block D (Array.getElem?_eq_some_iff.1 h.2.2).1 (by simp; omega)).trans h.2.2⟩

theorem range_box {α : Type} {g : Operand} {ps : Array Tmp} {assign body : Code} {Q : Exit → Act → World → Prop} {a : Act} {w : World}
    (hro : F.round = none) (h1 : 1 ≤ n) {gf : Nat} {lb : Array Value} (hg : a.eval g = .func (.func gf) #[] lb) (hFg : F.fn gf) (eg : ∀ args w, (callFunc gf args).run P w = .ok (.enter gf args) w)
    {encs : α → Array Value} {Kp : World → World → Prop} {S Sp : List α → Prop} {N Bp : Nat} (hseq : GivesBox F (n - 1) P gf lb encs Kp S Sp N Bp w) (hBp : Bp < w.heap.size)
    (hKt : ∀ {A B C : World}, Kp A B → Kp B C → Kp A C) (hKb : ∀ (W : World) (l : Nat) (o' : Obj), w.heap.size ≤ l → Kp W (W.putObj l o')) (hps : ∀ x, (encs x).size = ps.size)
    (I : List α → World → Prop) (Ix : Code → List α → World → Prop) (hI : OwnFrom w.heap.size I) (hIx : ∀ c, OwnFrom w.heap.size (Ix c)) (hIb : AbidesBox Bp I) (hIxb : ∀ c, AbidesBox Bp (Ix c)) (h0 : I [] w) (a₁ : α → Act)
    (hassign : ∀ (l : Nat) (x : α) (W : World) (K : Act → World → Prop), K (a₁ x) W →
      assign.wpIn (F.inRound l) (n - 1 - 1) P (Exit.then K (fun _ _ _ => False)) { tmps := (ps.zip (encs x)).foldl (fun t (p, v) => t.setIfInBounds p v) a.tmps, defers := [] } W)
    (hbody : ∀ (l : Nat) (pre : List α) (x : α) (W : World), I pre W → pre.length < N → body.wpIn (F.inRound l) (n - 1 - 1) P (ownPostG w.heap.size Kp I Ix (pre ++ [x]) W) (a₁ x) W)
    (hdone : ∀ (D : Nat) (xs : List α) (W : World), w.heap.size ≤ D → S xs → I xs W → W.heap[D]? = some (.deferred (some [])) → Q .normal { a with defers := { target := .collected D, args := #[] } :: a.defers } W)
    (hstop : ∀ (D : Nat) (c : Code) (pre : List α) (W : World), w.heap.size ≤ D → Sp pre → Ix c pre W → W.heap[D]? = some (.deferred (some [])) → c.wpIn F n P Q { a with defers := { target := .collected D, args := #[] } :: a.defers } W) :
    (Code.rangeFunc g ps assign body).wpIn F n P Q a w := by
  refine wpIn_rangeFunc fun fn hfn => ?_
  rw [hro]
  obtain ⟨D, hD⟩ : ∃ D, w.heap.size = D := ⟨_, rfl⟩
  obtain ⟨rc, hrc⟩ : ∃ rc : LoopState → Option Code → Loop, rc = fun st pe => { state := st, pending := pe, fn, tmps := a.tmps, params := ps, assign, body, defers := w.heap.size } := ⟨_, rfl⟩
  have hL1 : ((w.alloc (.deferred (some []))).alloc (.loop (rc .ready none))).heap[D + 1]? = some (.loop (rc .ready none)) := by
    have := World.alloc_heap_new (w.alloc (.deferred (some []))) (.loop (rc .ready none)); rw [World.size_alloc] at this; rw [← hD]; exact this
  have hK1 : ((w.alloc (.deferred (some []))).alloc (.loop (rc .ready none))).heap[D]? = some (.deferred (some [])) := by
    rw [← hD]; exact (Below.heap_alloc _ _ _ (by simp)).trans (World.alloc_heap_new w _)
  refine ⟨D + 1, [{ target := .collected D, args := #[] }], (w.alloc (.deferred (some []))).alloc (.loop (rc .ready none)), { target := .fn (.func gf) lb, args := #[.func (.yield (D + 1)) #[] #[]] }, (w.alloc (.deferred (some []))).alloc (.loop (rc .ready none)), gf,
    #[.func (.yield (D + 1)) #[] #[]] ++ lb, (w.alloc (.deferred (some []))).alloc (.loop (rc .ready none)), ?_, ?_, ?_, ?_, fun _ => h1, ?_⟩
  · rw [hrc, ← hD]; exact run_enterLoop_outer _ _ _ _ _
  · simp only [resolve, hg]
    simp [go_sem]
  · intro f' hf'; simp [Target.leads] at hf'; subst hf'; exact hFg
  · simp [invoke, go_sem, eg]
  refine (hseq (D + 1) (fun pre W => I pre W ∧ W.heap[D + 1]? = some (.loop (rc .ready none)) ∧ W.heap[D]? = some (.deferred (some [])))
    (fun pre W => ∃ c, Ix c pre W ∧ W.heap[D + 1]? = some (.loop (rc .done (some c))) ∧ W.heap[D]? = some (.deferred (some []))) _
    (((Below.refl _ w).alloc (Nat.le_refl _) _).alloc (by simp) _) (abides_with hIb (by omega) (by omega) _ _)
    (fun s X Y h hg' => by obtain ⟨c, hc⟩ := h; exact ⟨c, abides_with (hIxb c) (by omega) (by omega) _ _ s X Y hc hg'⟩) ?_ ⟨hI.alloc _ (hI.alloc _ h0), hL1, hK1⟩).mono ?_
  · rintro pre x W ⟨hi, hl, hk⟩ hlen
    have hlt : D + 1 < W.heap.size := (Array.getElem?_eq_some_iff.1 hl).1
    have hy := run_yield (P := P) (args := encs x) hl (by rw [hrc]; exact hps x)
    rw [hrc] at hy
    refine ⟨fn, _, assign, body, hy, roundIn_of_wpIn hfn (hassign _ x W _ ⟨_, run_beginRound hl (by rw [hrc]), ?_⟩)⟩
    obtain ⟨W2, hW2⟩ : ∃ W2, W.putObj (D + 1) (.loop { rc .ready none with state := .busy }) = W2 := ⟨_, rfl⟩
    have hl2 : W2.heap[D + 1]? = some (.loop { rc .ready none with state := .busy }) := by rw [← hW2]; exact World.putObj_heap_same hlt
    have hk2 : W2.heap[D]? = some (.deferred (some [])) := by rw [← hW2]; exact (World.putObj_heap_other (by omega)).trans hk
    have hw2 : Kp W W2 := by rw [← hW2]; exact hKb _ _ _ (by omega)
    have hi2 : I pre W2 := by rw [← hW2]; exact hI.putObj _ hi (by omega) hl rfl
    rw [hW2]
    refine wpIn_mono (hbody _ pre x _ hi2 hlen) ?_
    have fin : ∀ (j : Option Code) (W3 : World), KeepsFrom w.heap.size W2 W3 → ∃ W4, (Instr.endRound (D + 1) j).run P W3 = .ok (.bool j.isNone) W4 ∧
        W4 = W3.putObj (D + 1) (.loop (rc (if j.isNone then .ready else .done) j)) ∧ W3.heap[D + 1]? = some (.loop { rc .ready none with state := .busy }) ∧
        W4.heap[D + 1]? = some (.loop (rc (if j.isNone then .ready else .done) j)) ∧ W4.heap[D]? = some (.deferred (some [])) := fun j W3 hk3 => by
      have hl3 := hk3.same _ _ (by omega) hl2 rfl
      have he := run_endRound (P := P) j hl3
      refine ⟨_, ?_, rfl, hl3, World.putObj_heap_same (Array.getElem?_eq_some_iff.1 hl3).1, (World.putObj_heap_other (by omega)).trans (hk3.same _ _ (by omega) hk2 rfl)⟩
      rw [hrc] at he ⊢
      exact he
    have leave : ∀ (c : Code) (W3 : World), KeepsFrom w.heap.size W2 W3 → Ix c (pre ++ [x]) W3 → ∃ v W4, (Instr.endRound (D + 1) (some c)).run P W3 = .ok v W4 ∧
        (v = .bool false ∧ ∃ c, Ix c (pre ++ [x]) W4 ∧ W4.heap[D + 1]? = some (.loop (rc .done (some c))) ∧ W4.heap[D]? = some (.deferred (some []))) := fun c W3 hk3 hi3 => by
      obtain ⟨W4, hr, e4, hl3, hl4, hk4⟩ := fin (some c) W3 hk3
      exact ⟨_, W4, hr, rfl, c, by rw [e4]; exact (hIx c).putObj _ hi3 (by omega) hl3 rfl, hl4, hk4⟩
    rintro e a3 W3 hp
    cases e with
    | normal =>
      obtain ⟨hk3, hkp3, hi3⟩ := hp
      obtain ⟨W4, hr, e4, hl3, hl4, hk4⟩ := fin none W3 hk3
      exact ⟨_, _, hr, .inl ⟨rfl, ⟨by rw [e4]; exact hI.putObj _ hi3 (by omega) hl3 rfl, hl4, hk4⟩, hKt (hKt hw2 hkp3) (by rw [e4]; exact hKb _ _ _ (by omega))⟩⟩
    | ret => obtain ⟨v, W4, hr, rfl, h⟩ := leave .ret W3 hp.1 hp.2; exact ⟨_, _, hr, .inr ⟨rfl, h⟩⟩
    | exit id => obtain ⟨v, W4, hr, rfl, h⟩ := leave (.exit id) W3 hp.1 hp.2; exact ⟨_, _, hr, .inr ⟨rfl, h⟩⟩
    | goto t => obtain ⟨v, W4, hr, rfl, h⟩ := leave (.goto t) W3 hp.1 hp.2; exact ⟨_, _, hr, .inr ⟨rfl, h⟩⟩
    | panic ch => exact hp.elim
    | outgrown => exact hp.elim
  · rintro e W2 ⟨⟨v, rfl⟩, (⟨xs, hS, hi, hl, hk⟩ | ⟨pre, hSp, c, hi, hl, hk⟩)⟩
    · exact ⟨none, _, by have := run_endLoop (P := P) hl (by rw [hrc]; simp); rw [hrc] at this; exact this, hdone D xs _ (by omega) hS (hI.putObj _ hi (by omega) hl rfl) ((World.putObj_heap_other (by omega)).trans hk)⟩
    · exact ⟨some c, _, by have := run_endLoop (P := P) hl (by rw [hrc]; simp); rw [hrc] at this; exact this, hstop D c pre _ (by omega) hSp ((hIx c).putObj _ hi (by omega) hl rfl) ((World.putObj_heap_other (by omega)).trans hk)⟩
end Go.Proofs.YteimilnecahifaaGreatDoor
