/- The law's copied: a node of the program as one of the reference. -/
import Derived.Deep.MidRow
import Derived.StillTailTactics
import Derived.Test.YtlekfdkahlobiaaGreatDoorGCount
import Derived.Test.YtlekfdkahlobiaaGreatDoorGMem2
namespace Go.Proofs.YtlekfdkahlobiaaGreatDoor.Re
open Go.RowKit

theorem bools_range {T : Nat} {w : World} {b k : Nat} {p : UInt8 → Bool} {m n : Int} {kv : Value} (h : BlkAt T w b k p m n kv) : w.rangeAt b 1 (boolsL p) := by
  intro j v hv
  have hj : j < 256 := by have := (List.getElem?_eq_some_iff.1 hv).1; rw [boolsL_len] at this; exact this
  have hp : v = .bool (p (UInt8.ofNat j)) := by simp [boolsL, hj] at hv; exact hv.symm
  rw [hp]
  exact h_cell h (1 + j) (ndC_has k p m n kv j hj)
theorem wpStill_load_mid {P : Program} {ops : Array Oper} {w : World} {Q : Act → Prop} {a : Act} {o : Oper} {rest : List Oper} (ty : TypeId) (x : Operand) (ho : o.op = .load ty x) (hg : o.guard = none) (b off : Nat) (hx : a.eval x = .pointer (some ⟨b, off, none⟩)) (cs : List Value) (d : TypeDesc) (hc : w.rangeAt b off cs)
    (hu : P.underlying ty = some d) (hd : d.isRow = true) (hi : (P.info? ty).map (·.size) = some cs.length) (h : wpStill P ops w Q rest (a.put o.dst (.agg cs.toArray))) : wpStill P ops w Q (o :: rest) a := by
  refine wpStill_step fun K hK => ?_
  rw [if_pos (by simp [Region.wanted, hg])]
  unfold Oper.still execOp
  simp only [ho, hx, Sem.run_bind, run_loadAt_mid w b off ty cs d hc hu hd hi, Result.andThen_ok]
  exact ⟨rfl, hK _ h⟩
theorem wpList_build_run {P : Program} {ops : Array Oper} {rest : List Oper} {o : Oper} {a : Act} {w : World} {Q : Exit → Act → World → Prop} (hg : o.guard = none) (t : TypeId) (parts : Array (Nat × Operand)) (ho : o.op = .build t parts) (vals : Array (Nat × Value)) (hv : (parts.map fun (i, x) => (i, a.eval x)) = vals) (cells : Array Value) (hr : (Instr.build t vals).run P w = .ok (.agg cells) w)
    (h : wpList P ops Q rest (a.put o.dst (.agg cells)) w) : wpList P ops Q (o :: rest) a w :=
  wpList_plain hg fun _ hK => by
    unfold Oper.wp execOp
    simp only [ho, hv, Sem.run_bind, hr, Result.andThen_ok]
    exact hK _ _ h
def CopyOut (w : World) (x : Nd) (e : Ending) (w' : World) : Prop := ∃ b, e = .returned (.tuple #[ptr b, .bool true]) ∧ NodeF 57 (fun j => w.heap.size ≤ j) w' (ptr b) x ∧ Below w.heap.size w w'
def CopyC (x : Nd) : Prop := ∀ (v : Value) (d : Nat) (w : World), d + x.deep ≤ 20001 → NodeAt 54 w v x → Calls Tryz.prog 8 #[v, .int .i64 (d : Int)] w (CopyOut w x)
set_option maxHeartbeats 4000000 in
set_option maxRecDepth 100000 in
theorem copied_1 (k : Nat) (p : UInt8 → Bool) (m n : Int) (l : List Nd) (v : Value) (d : Nat) (w : World) (hd : d ≤ 20000) (hw : (⟨k, p, m, n, l⟩ : Nd).wf = true) (hc : l.length ≤ 8388608) (hdl : ∀ x ∈ l, d + 1 + x.deep ≤ 20001) (ih : ∀ x ∈ l, CopyC x) (h : NodeAt 54 w v ⟨k, p, m, n, l⟩) :
    Calls Tryz.prog 8 #[v, .int .i64 (d : Int)] w (CopyOut w ⟨k, p, m, n, l⟩) := by
  obtain ⟨hk, hmn, h6, h4, hwl⟩ := wf_open hw
  obtain ⟨b, ka, cap, rfl, hB, hcap, hkid⟩ := node_open h
  have HC : Hid (∀ u, Below w.heap.size w u → u.cell? ⟨b, 0, none⟩ = some (.int .i64 (k : Int)) ∧ u.cell? ⟨b, 257, none⟩ = some (.int .i64 m) ∧ u.cell? ⟨b, 258, none⟩ = some (.int .i64 n) ∧ u.cell? ⟨b, 259, none⟩ = some (.slice ka l.length cap)) := fun u hu =>
    ⟨(hu.cell (p := ⟨b, 0, none⟩) (h_lt hB)).trans (h_cell hB 0 (ndC_0 _ _ _ _ _)), (hu.cell (p := ⟨b, 257, none⟩) (h_lt hB)).trans (h_cell hB 257 (ndC_m _ _ _ _ _)), (hu.cell (p := ⟨b, 258, none⟩) (h_lt hB)).trans (h_cell hB 258 (ndC_n _ _ _ _ _)), (hu.cell (p := ⟨b, 259, none⟩) (h_lt hB)).trans (h_cell hB 259 (ndC_kv _ _ _ _ _))⟩
  have HR : Hid (∀ u, Below w.heap.size w u → u.rangeAt b 1 (boolsL p)) := fun u hu j v hv => (hu.cell (p := ⟨b, 1 + j, none⟩) (h_lt hB)).trans (bools_range hB j v hv)
  have hbl := h_lt hB
  have HK := Lib.hid hkid
  have HI := Lib.hid (And.intro ih hdl)
  have H6 := Lib.hid h6
  clear hB hkid ih h hwl h4 h6 hdl hw
  have hd2 : ¬ 20000 < (d : Int) := by omega
  obtain ⟨c0, c257, c258, c259⟩ := HC.out w (Below.refl _ _)
  have KK : ∀ w', Below w.heap.size w w' → w'.cell? ⟨b, 0, none⟩ = some (.int .i64 (k : Int)) ∧ w'.rangeAt b 1 (boolsL p) ∧ w'.cell? ⟨b, 257, none⟩ = some (.int .i64 m) ∧ w'.cell? ⟨b, 258, none⟩ = some (.int .i64 n) := fun w' h => ⟨(HC.out w' h).1, HR.out w' h, (HC.out w' h).2.1, (HC.out w' h).2.2.1⟩
  have u51 := Tryz.underlying51
  have i51 : (Tryz.prog.info? 51).map (·.size) = some (boolsL p).length := by rw [boolsL_len]; kernel_rfl
  have hbd := build_copy k p m n
  go_enter Tryz.func8, Tryz.ntmps8
  go_upto_region 3 with fail
  refine wp_region_still_tail 16 (by kernel_rfl) (by kernel_rfl) ?_
  simp only [List.take_succ_cons, List.take_zero, List.drop_succ_cons, List.drop_zero]
  have k0 : w.drew.cell? ⟨b, 0, none⟩ = some (.int .i64 (k : Int)) := c0
  have k1 : w.drew.cell? ⟨b, 257, none⟩ = some (.int .i64 m) := c257
  have k2 : w.drew.cell? ⟨b, 258, none⟩ = some (.int .i64 n) := c258
  have kr : w.drew.rangeAt b 1 (boolsL p) := HR.out w.drew (below_drew (Below.refl _ _))
  show wpStill Tryz.prog _ w.drew _ _ _
  still_step
  still_step
  still_step
  still_step
  still_step
  still_step
  still_step
  refine wpStill_load_mid 51 (.tmp 22) rfl rfl b 1 rfl (boolsL p) _ kr u51 rfl i51 ?_
  simp only [Act.put, List.setIfInBounds_toArray, List.set_cons_succ, List.set_cons_zero]
  still_step
  still_step
  still_step
  still_step
  still_step
  still_step
  still_step
  still_step
  refine wpStill_nil ?_
  refine wpList_build_run rfl 57 _ rfl _ (by simp [Act.eval]) _ (build_copy k p m n _) ?_
  simp only [Act.put, List.setIfInBounds_toArray, List.set_cons_succ, List.set_cons_zero]
  generalize hZ : ndC k p m n (.slice none 0 0) = Z
  generalize (boolsL p).toArray = A
  clear kr KK i51 u51 hbd k0 k1 k2
  obtain ⟨i0, hi, hz0, hz1, hz2⟩ := info_parts info_ptr
  have HW : Hid (BlkAt 57 (w.alloc (.cells Z 57)).drew w.heap.size k p m n (.slice none 0 0) ∧ Below w.heap.size w (w.alloc (.cells Z 57)).drew ∧ w.heap.size < (w.alloc (.cells Z 57)).drew.heap.size) := by
    refine ⟨?_, below_drew ((Below.refl _ w).alloc (Nat.le_refl _) _), h_lt (al_new w _)⟩
    show (w.alloc _).heap[w.heap.size]? = _
    rw [al_new, hZ]
  clear hZ c0 c257 c258 c259
  go_wp2_with fail
  generalize (w.alloc (.cells Z 57)).drew = W1 at HW ⊢
  go_loopw [7, 8, 9] (fun vi _ _ wr => ∃ (i : Nat), i ≤ l.length ∧ vi = .int .i64 i ∧ Hid (∃ kv vs, BlkAt 57 wr w.heap.size k p m n kv ∧ wr.ownsRow (w.heap.size + 1) 27 1 kv i vs ∧ PtrsF 57 (Far (w.heap.size + 1) kv) wr vs (l.take i) ∧ Below w.heap.size w wr)) (fun vi _ _ _ => l.length - (intOf vi).toNat)
  case atStart => exact ⟨0, by omega, rfl, (show ∃ _ _, _ from ⟨.slice none 0 0, [], HW.out.1, ⟨rfl, .inl ⟨rfl, rfl⟩⟩, ⟨by simp, fun i v x h => by simp at h⟩, HW.out.2.1⟩)⟩
  case round =>
    obtain ⟨i, hil, rfl, HO⟩ := hrel
    obtain ⟨kv, vs, hB, hO, hP, hBw⟩ := HO.out
    obtain ⟨c0, c257, c258, c259⟩ := HC.out wr hBw
    have hobl := h_lt hB
    obtain ⟨va, vc, rfl⟩ := own_slice hO
    by_cases hlt : i < l.length
    · obtain ⟨x, hx⟩ : ∃ x, l[i]? = some x := ⟨_, List.getElem?_eq_getElem hlt⟩
      obtain ⟨kb, off, u, rfl, hu, hN⟩ := HK.out i x hx
      have hcu := (hBw.cell (World.block_lt_of_cell? w _ hu)).trans hu
      have tx := HI.out.1 x (List.mem_of_getElem? hx) u (d + 1) wr (HI.out.2 x (List.mem_of_getElem? hx)) (hN.below hBw)
      rw [show ((d + 1 : Nat) : Int) = (d : Int) + 1 by omega] at tx
      obtain ⟨ub, rfl, _⟩ := hN.ptr
      have HT : Hid (l.take (i + 1) = l.take i ++ [x]) := by show _ = _; rw [List.take_add_one, hx]; rfl
      have HA : Hid (BlkAt 57 wr w.heap.size k p m n (.slice va i vc) ∧ wr.ownsRow (w.heap.size + 1) 27 1 (.slice va i vc) i vs ∧ PtrsF 57 (Far (w.heap.size + 1) (.slice va i vc)) wr vs (l.take i) ∧ Below w.heap.size w wr) := ⟨hB, hO, hP, hBw⟩
      clear hN hu hx HK HO hB hO hP hBw
      go_wp2_with fail
      refine tx.mono ?_
      rintro e w2 ⟨b2, rfl, hN2, hB2⟩
      have HA2 : Hid (BlkAt 57 w2 w.heap.size k p m n (.slice va i vc) ∧ w2.ownsRow (w.heap.size + 1) 27 1 (.slice va i vc) i vs ∧ PtrsF 57 (Far (w.heap.size + 1) (.slice va i vc)) w2 vs (l.take i) ∧ Below w.heap.size w w2 ∧ NodeF 57 (Far (w.heap.size + 1) (.slice va i vc)) w2 (ptr b2) x) :=
        ⟨(hB2.block w.heap.size hobl).trans HA.out.1, row_below HA.out.2.1 hB2, HA.out.2.2.1.kept (kept_below hB2) (fun _ h _ => h), HA.out.2.2.2.trans (hB2.mono HA.out.2.2.2.size), hN2.kept (fun _ _ _ h => h) (fun j hj _ => ⟨by omega, fun e => by have := own_ge HA.out.2.1 j e.symm; omega⟩)⟩
      clear tx hN2 hB2 HA hcu c0 c257 c258 c259
      have f259 := h_cell HA2.out.1 259 (ndC_kv _ _ _ _ _)
      have hob2 := h_lt HA2.out.1
      go_wp2_with (at_builtin; refine wpList_append_lies _ rfl _ _ 55 rfl (w.heap.size + 1) 27 i0 (.pointer none) 1 8 Tryz.underlying55 hi hz0 hz1 hz2 rfl (by decide) (.slice va i vc) i vs rfl (row_below HA2.out.2.1 ((Below.refl _ w2).alloc (Nat.le_refl _) _)) ⟨w2.heap.size, 0, none⟩ 1 1 [ptr b2] rfl rfl (cell_one _ _ _) (by simp [Value.oneCell']) (by omega) (by unfold maxLen; omega) (by omega) (by simp; omega) _ rfl ?_; intro g cap2 w4 hown4 hgrow4 hat4 hlt4; have hX4 : BlkAt 57 w4 w.heap.size k p m n (.slice va i vc) := (hgrow4.block w.heap.size (by simp; omega) (fun e => by have := own_ge HA2.out.2.1 _ e.symm; omega)).trans ((heap_alloc_old w2 _ hob2).trans HA2.out.1); have f4 := h_cell hX4 259 (ndC_kv _ _ _ _ _); have z4 := h_fz hX4 259; have H4 := Lib.hid (And.intro hX4 (And.intro hown4 (And.intro hgrow4 hat4))); clear hX4 hown4 hgrow4 hat4 hlt4)
      refine ⟨⟨i + 1, by omega, by go_num, ?_⟩, by simp [intOf]; omega⟩
      obtain ⟨hX4, hown4, hgrow4, hat4⟩ := H4.out
      have hBa : Below w2.heap.size w2 (w2.alloc (.cells #[ptr b2] 27)) := (Below.refl _ w2).alloc (Nat.le_refl _) _
      have hX5 := h_set hX4 259 (.slice (some ⟨g, 0, none⟩) (i + 1) cap2)
      rw [ndC_setkv] at hX5
      have hPa := ptrs_app (n := i + 1) (cap := cap2) (HA2.out.2.2.1.kept (kept_below hBa) (fun _ h _ => h)) (HA2.out.2.2.2.2.kept (kept_below hBa) (fun _ h _ => h)) hgrow4 hat4
      refine (show ∃ _ _, _ from ⟨.slice (some ⟨g, 0, none⟩) (i + 1) cap2, vs ++ [ptr b2], hX5, row_setG hown4, ?_, ?_⟩)
      · rw [HT.out]
        exact hPa.kept (kept_set (fun h => by have := h.1; omega)) (fun _ h _ => h)
      · exact ((HA2.out.2.2.2.1.trans (hBa.mono HA2.out.2.2.2.1.size)).grown hgrow4 (by simp; omega) (fun j ej => by have := own_ge HA2.out.2.1 j ej; omega)).setCell (p := ⟨w.heap.size, 259, none⟩) (Nat.le_refl _) _
    · obtain rfl : i = l.length := by omega
      rw [List.take_length] at hP
      have HF : Hid (NodeF 57 (fun j => w.heap.size ≤ j) wr (ptr w.heap.size) ⟨k, p, m, n, l⟩ ∧ Below w.heap.size w wr) :=
        ⟨NodeF.make (Nat.le_refl _) hB hO (fun j ej => by have := own_ge hO j ej; omega) (hP.kept (fun _ _ _ h => h) (fun j hj _ => by have := hj.1; omega)), hBw⟩
      clear hB hO hP hBw HO HK
      have hk0 : 0 ≤ (k : Int) := by omega
      have hk6 : (k : Int) ≤ 6 := by omega
      by_cases h6 : k = 6
      · have hl1 : l.length = 1 := H6.out h6
        have HL1 := Lib.hid hl1
        rw [hl1] at c259 ⊢
        subst h6
        go_wp2_with fail
        go_quiet (fail)
        go_wp2_with fail
        go_ret2
        exact ⟨w.heap.size, rfl, HF.out.1.kept (kept_below below_drewN) (fun _ h _ => h), HF.out.2.trans below_drewN⟩
      · have h6b : ((k : Int) != 6) = true := by rw [bne_iff_ne]; omega
        go_wp2_with fail
        go_quiet (fail)
        go_wp2_with fail
        go_ret2
        exact ⟨w.heap.size, rfl, HF.out.1.kept (kept_below below_drewN) (fun _ h _ => h), HF.out.2.trans below_drewN⟩
/-- The law's copied, of any node. -/
theorem copied_c : ∀ (d : Nat) (x : Nd), x.deep ≤ d → x.wf = true → x.count ≤ 8388608 → CopyC x
  | 0, x, h, _, _ => by cases x; rw [Nd.deep] at h; omega
  | d + 1, ⟨k, p, m, n, l⟩, h, hw, hz => by
    obtain ⟨_, _, _, _, hwl⟩ := wf_open hw
    have hd : Nd.deep.deeps l ≤ d := by rw [Nd.deep] at h; omega
    have hc : 1 + Nd.count.counts l ≤ 8388608 := hz
    have ih : ∀ x ∈ l, CopyC x := fun x hx => copied_c d x (Nat.le_trans (deeps_mem hx) hd) (hwl x hx) (by have := counts_mem hx; omega)
    intro v e w he hN
    rw [Nd.deep] at he
    exact copied_1 k p m n l v e w (by omega) hw (by have := counts_len l; omega) (fun x hx => by have := deeps_mem hx; omega) ih hN
end Go.Proofs.YtlekfdkahlobiaaGreatDoor.Re

namespace Go.Proofs.YtlekfdkahlobiaaGreatDoor.Re
open Go.Proofs.YtlekfdkahlobiaaGreatDoor.Tr
open Go.RowKit

def ImO (x : Nd) (w : World) (e : Ending) (w' : World) : Prop := ∃ u L, e = .returned u ∧ ItR w' w.heap.size u L ∧ ItsOk w' x L ∧ L ≠ [] ∧ Below w.heap.size w w'
theorem im_one {w u : World} {x : Nd} {t : List UInt8} (hx : x.text = t) (hB : Below w.heap.size w u) : ImO x w (.returned (.slice (some ⟨u.heap.size, 0, none⟩) 1 1)) (u.alloc (.cells #[.string (bs t), .pointer none] 64)) := by
  refine ⟨_, [txI t], rfl, ?_, its_one hx, by simp, hB.alloc hB.size _⟩
  have := it_one u t (.pointer none) none rfl
  exact ⟨⟨this.row.1, this.row.2.imp id fun ⟨g, c, cu, h1, h2, h3⟩ => ⟨g, c, cu, h1, Nat.le_trans hB.size h2, h3⟩⟩, this.ok⟩
theorem im_rep {w u : World} {p : UInt8 → Bool} {m n : Int} {v : Value} {x : Nd} (hB : Below w.heap.size w u) (hN : NodeP w v x) (hw : x.wf = true) : ImO ⟨6, p, m, n, [x]⟩ w (.returned (.slice (some ⟨u.heap.size, 0, none⟩) 2 2)) (u.alloc (.cells #[.string ⟨#[]⟩, v, .string (bs (timesT m n)), .pointer none] 64)) := by
  have hal : Below u.heap.size u (u.alloc (.cells #[.string ⟨#[]⟩, v, .string (bs (timesT m n)), .pointer none] 64)) := (Below.refl _ u).alloc (Nat.le_refl _) _
  have hB' := hB.trans (hal.mono hB.size)
  have hit := its_rep (p := p) (m := m) (n := n) (hN.keep (NKeep.of hB')) hw
  exact ⟨_, [ndI v x, txI (timesT m n)], rfl, ⟨⟨rfl, .inr ⟨u.heap.size, 2, _, rfl, hB.size, al_new _ _, Nat.le_refl _, by decide, rfl, rfl⟩⟩, hit.ok⟩, hit, by simp, hB'⟩
theorem rangesF_len (p : UInt8 → Bool) : (rangesF p 0 []).length ≤ 1600 := by
  have := rangesS_len p 257 0 [] (by simp)
  exact Nat.le_trans this (by decide)
set_option maxHeartbeats 4000000 in
set_option maxRecDepth 100000 in
theorem items_c {w : World} {v : Value} {x : Nd} (hA : AmS w) (hn : NodeP w v x) (hw : x.wf = true) (hz : x.size ≤ 30000) :
    Calls Tryz.prog 25 #[v] w (ImO x w) := by
  obtain ⟨k, p, m, n, l⟩ := x
  obtain ⟨hk, hmn, h6, h4, hwl⟩ := wf_open hw
  obtain ⟨b, a, cap, L, rfl, hB, hcap, rfl, hkid⟩ := nodeP_open hn
  have hll : L.length ≤ 30000 := by
    have h1 := sizes_le k p m n (L.map Prod.snd)
    have h2 : ∀ l : List Nd, l.length ≤ Nd.size.sizes l := fun l => by
      induction l with
      | nil => exact Nat.zero_le _
      | cons y l ih => rw [List.length_cons, Nd.size.sizes]; have := size_pos y; omega
    have h3 := h2 (L.map Prod.snd)
    rw [List.length_map] at h3
    omega
  rw [List.length_map] at hB hcap h6
  have c0 := h_cell hB 0 (ndC_0 _ _ _ _ _)
  have c257 := h_cell hB 257 (ndC_m _ _ _ _ _)
  have c258 := h_cell hB 258 (ndC_n _ _ _ _ _)
  have c259 := h_cell hB 259 (ndC_kv _ _ _ _ _)
  have hr := bools_range hB
  have hwq : ∀ q ∈ L, q.2.wf = true := fun q hq => hwl q.2 (List.mem_map.2 ⟨q, hq, rfl⟩)
  have hip := fun sep => inPar_c sep hll hcap hkid hwq
  have htm : ∀ u, AmS u → _ := fun u => timesT_c (w := u) ⟨hmn.1, hmn.2.1⟩ ⟨hmn.2.2.1, hmn.2.2.2⟩
  have HIT : Hid (∀ u, Below w.heap.size w u → (k = 4 ∨ k = 5) → ItsOk u ⟨k, p, m, n, L.map Prod.snd⟩ (txI [40] :: midI (if k = 5 then [124] else []) true L ++ [txI [41]])) := fun u hu hk => its_par hk fun q hq => by
    obtain ⟨i, hi⟩ := List.getElem?_of_mem hq
    exact ⟨(hkid i q hi).1.keep (NKeep.of hu), hwq q hq⟩
  have HKid := Lib.hid hkid
  have HW := Lib.hid hwq
  have HA := Lib.hid hA
  have H6 := Lib.hid h6
  have hbl := h_lt hB
  clear hB hn hw h4 hwl hkid hwq hA h6
  have i51 : (Tryz.prog.info? 51).map (·.size) = some (boolsL p).length := by rw [boolsL_len]; kernel_rfl
  rcases (show k = 0 ∨ k = 1 ∨ k = 2 ∨ k = 3 ∨ k = 4 ∨ k = 5 ∨ k = 6 by omega) with rfl | rfl | rfl | rfl | rfl | rfl | rfl
  · go_enter Tryz.func25, Tryz.ntmps25
    go_wp2_with fail
    go_ret
    exact im_one (by rw [Nd.text]; rfl) (Below.refl _ _)
  · have hrg := ranges_c p w
    have hz1 : (bs (rangesF p 0 [])).size ≤ 1600 := by rw [bs_size]; exact rangesF_len p
    have HT : Hid (bs [60] ++ bs (rangesF p 0 []) ++ bs [62] = bs (setT p)) := by show _ = _; rw [setT_F]; rfl
    go_enter Tryz.func25, Tryz.ntmps25
    go_wp2_with fail
    refine wp_load_mid 51 (.tmp 11) rfl b 1 rfl (boolsL p) _ hr Tryz.underlying51 rfl i51 ?_
    go_wp2_with fail
    refine hrg.mono ?_
    rintro e w1 ⟨rfl, hB1⟩
    generalize bs (rangesF p 0 []) = R at hz1 HT ⊢
    go_wp2_with fail
    go_ret
    have e : ((⟨#[60]⟩ : ByteArray) ++ R ++ ⟨#[62]⟩) = bs (setT p) := HT.out
    rw [e]
    exact im_one (by rw [Nd.text]; rfl) hB1
  · go_enter Tryz.func25, Tryz.ntmps25
    go_wp2_with fail
    go_ret
    exact im_one (t := [94]) (by rw [Nd.text]; rfl) (Below.refl _ _)
  · go_enter Tryz.func25, Tryz.ntmps25
    go_wp2_with fail
    go_ret
    exact im_one (t := [36]) (by rw [Nd.text]; rfl) (Below.refl _ _)
  · have hp := hip []
    go_enter Tryz.func25, Tryz.ntmps25
    go_wp2_with fail
    refine hp.mono ?_
    rintro e w1 ⟨u, rfl, hR, hB1⟩
    have hI : ItsOk w1 _ (txI [40] :: midI [] true L ++ [txI [41]]) := HIT.out w1 hB1 (by simp)
    have hne : txI [40] :: midI [] true L ++ [txI [41]] ≠ [] := by simp
    generalize txI [40] :: midI [] true L ++ [txI [41]] = M at hR hI hne
    obtain ⟨ua, uc, rfl⟩ := hR.slice
    have HF := Lib.hid (And.intro hR (And.intro hI (And.intro hne hB1)))
    clear hR hI hne hB1 hp hip
    go_wp2_with fail
    go_ret
    exact ⟨_, M, rfl, HF.out⟩
  · have hp := hip [124]
    go_enter Tryz.func25, Tryz.ntmps25
    go_wp2_with fail
    refine hp.mono ?_
    rintro e w1 ⟨u, rfl, hR, hB1⟩
    have hI : ItsOk w1 _ (txI [40] :: midI [124] true L ++ [txI [41]]) := HIT.out w1 hB1 (by simp)
    have hne : txI [40] :: midI [124] true L ++ [txI [41]] ≠ [] := by simp
    generalize txI [40] :: midI [124] true L ++ [txI [41]] = M at hR hI hne
    obtain ⟨ua, uc, rfl⟩ := hR.slice
    have HF := Lib.hid (And.intro hR (And.intro hI (And.intro hne hB1)))
    clear hR hI hne hB1 hp hip
    go_wp2_with fail
    go_ret
    exact ⟨_, M, rfl, HF.out⟩
  · have hl1 := H6.out rfl
    match L, hl1 with
    | [q], _ =>
    obtain ⟨hN, kb, off, rfl, hcu⟩ := HKid.out 0 q rfl
    have hqw := HW.out q (by simp)
    obtain ⟨qv, qx⟩ := q
    obtain ⟨pb, rfl, hpl⟩ := hN.ptr
    have HN := Lib.hid (And.intro hN hqw)
    have htw := htm w.drew (HA.out.keep (below_drew (Below.refl _ _)))
    have kub := World.block_lt_of_cell? w _ hcu
    have HC : Hid (∀ u, Below w.heap.size w u → u.cell? ⟨b, 257, none⟩ = some (.int .i64 m) ∧ u.cell? ⟨b, 258, none⟩ = some (.int .i64 n) ∧ u.cell? ⟨b, 259, none⟩ = some (.slice (some ⟨kb, off, none⟩) 1 cap) ∧ u.cell? ⟨kb, off, none⟩ = some (ptr pb)) := fun u hu =>
      ⟨(hu.cell (p := ⟨b, 257, none⟩) hbl).trans c257, (hu.cell (p := ⟨b, 258, none⟩) hbl).trans c258, (hu.cell (p := ⟨b, 259, none⟩) hbl).trans c259, (hu.cell (p := ⟨kb, off, none⟩) kub).trans hcu⟩
    clear hN hqw hip hl1 hr
    go_enter Tryz.func25, Tryz.ntmps25
    go_upto_region 13 with fail
    have hd0 := HC.out w.drew (below_drew (Below.refl _ _))
    go_region_held3 (fun u => u.cell? ⟨b, 257, none⟩ = some (.int .i64 m) ∧ u.cell? ⟨b, 258, none⟩ = some (.int .i64 n) ∧ u.cell? ⟨b, 259, none⟩ = some (.slice (some ⟨kb, off, none⟩) 1 cap) ∧ u.cell? ⟨kb, off, none⟩ = some (ptr pb)) (first | with_reducible exact hd0 | with_reducible exact hd1 | with_reducible exact hd2 _) (first | (go_at_call 43; refine htw.mono ?_; rintro e w1 ⟨rfl, hB1⟩; have hd1 := HC.out w1 ((below_drew (Below.refl _ w)).trans hB1); have hd2 := fun o => HC.out (w1.alloc o) (((below_drew (Below.refl _ w)).trans hB1).alloc hB1.size o)))
    all_goals
      go_wp2_with fail
      go_ret
      exact im_rep ((below_drew (Below.refl _ w)).trans hB1) HN.out.1 HN.out.2
end Go.Proofs.YtlekfdkahlobiaaGreatDoor.Re
