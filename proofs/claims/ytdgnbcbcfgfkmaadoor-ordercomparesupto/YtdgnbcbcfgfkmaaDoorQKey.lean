/- A key's text, by the reference. -/
import Derived.Test.YtdgnbcbcfgfkmaaDoorQPlace
namespace Go.Proofs.YtdgnbcbcfgfkmaaDoor
open Go.RowKit

def mkK (f1 c1 f2 c2 : Int) (g : Fg) : Array Value := #[.int .i64 f1, .int .i64 c1, .int .i64 f2, .int .i64 c2, .bool g.b, .bool g.e, .bool g.d, .bool g.f, .bool g.i, .bool g.n, .bool g.r]
theorem mk_K (f1 c1 f2 c2 : Int) : Mk (mkK f1 c1 f2 c2) 4 := by
  refine ⟨fun g i hi => ?_, fun g h i hi e => ?_⟩
  · have : i = 0 ∨ i = 1 ∨ i = 2 ∨ i = 3 ∨ i = 4 ∨ i = 5 ∨ i = 6 := by omega
    rcases this with rfl | rfl | rfl | rfl | rfl | rfl | rfl <;> rfl
  · have : i = 0 ∨ i = 1 ∨ i = 2 ∨ i = 3 ∨ i = 4 ∨ i = 5 ∨ i = 6 := by omega
    rcases this with rfl | rfl | rfl | rfl | rfl | rfl | rfl <;> (simp only [Fg.cells, List.set, List.cons.injEq, Value.bool.injEq, and_true] at e; simp [mkK, e])
/-- A key while it is read. -/
structure Kw (w : World) (fb rb kb : Nat) (wh : Fg) (f1 c1 f2 c2 : Int) (g : Fg) (wx : World) : Prop where
  kb_ : wx.heap[kb]? = some (.cells (mkK f1 c1 f2 c2 g) 68)
  rb_ : wx.heap[rb]? = some (.cells (mkK 0 0 0 0 fg0) 68)
  fb_ : wx.heap[fb]? = some (.cells #[.bool wh.b, .bool wh.e, .bool wh.d, .bool wh.f, .bool wh.i, .bool wh.n, .bool wh.r] 58)
  bl : Below w.heap.size w wx
  ge : w.heap.size ≤ fb ∧ w.heap.size ≤ rb ∧ w.heap.size ≤ kb ∧ fb ≠ rb ∧ fb ≠ kb ∧ rb ≠ kb
theorem Kw.turn {w : World} {fb rb kb : Nat} {wh : Fg} {f1 c1 f2 c2 d1 e1 d2 e2 : Int} {g g' : Fg} {wx wy : World} (h : Kw w fb rb kb wh f1 c1 f2 c2 g wx) (ht : Tn kb wx wy) (hk : wy.heap[kb]? = some (.cells (mkK d1 e1 d2 e2 g') 68)) : Kw w fb rb kb wh d1 e1 d2 e2 g' wy := by
  have hg := h.ge
  have h1 := (Array.getElem?_eq_some_iff.1 h.rb_).1
  have h2 := (Array.getElem?_eq_some_iff.1 h.fb_).1
  have hs := h.bl.size
  exact ⟨hk, (ht.block rb h1 (by omega)).trans h.rb_, (ht.block fb h2 (by omega)).trans h.fb_, ⟨ht.os.trans h.bl.os, ht.tape.trans h.bl.tape, ht.output.trans h.bl.output, Nat.le_trans hs ht.size, fun k hk' => (ht.block k (by omega) (by omega)).trans (h.bl.block k hk')⟩, h.ge⟩
section
variable {w : World} {fb rb kb : Nat} {wh : Fg} {f1 c1 f2 c2 : Int} {g : Fg} {wx : World}
theorem Kw.kc (h : Kw w fb rb kb wh f1 c1 f2 c2 g wx) (i : Nat) {y : Value} (hi : (mkK f1 c1 f2 c2 g)[i]? = some y) : wx.cell? ⟨kb, i, none⟩ = some y := by simp [World.cell?, h.kb_, hi]
theorem Kw.kz (h : Kw w fb rb kb wh f1 c1 f2 c2 g wx) (i : Nat) : wx.frozen? ⟨kb, i, none⟩ = false := by simp [World.frozen?, h.kb_]
theorem Kw.rc (h : Kw w fb rb kb wh f1 c1 f2 c2 g wx) (i : Nat) {y : Value} (hi : (mkK 0 0 0 0 fg0)[i]? = some y) : wx.cell? ⟨rb, i, none⟩ = some y := by simp [World.cell?, h.rb_, hi]
theorem Kw.rz (h : Kw w fb rb kb wh f1 c1 f2 c2 g wx) (i : Nat) : wx.frozen? ⟨rb, i, none⟩ = false := by simp [World.frozen?, h.rb_]
theorem Kw.fc (h : Kw w fb rb kb wh f1 c1 f2 c2 g wx) (i : Nat) {y : Value} (hi : (#[.bool wh.b, .bool wh.e, .bool wh.d, .bool wh.f, .bool wh.i, .bool wh.n, .bool wh.r] : Array Value)[i]? = some y) : wx.cell? ⟨fb, i, none⟩ = some y := by simp [World.cell?, h.fb_, hi]
end
theorem h_set {w : World} {b T : Nat} {cs : Array Value} (h : w.heap[b]? = some (.cells cs T)) (i : Nat) (v : Value) : (w.setCell ⟨b, i, none⟩ v).heap[b]? = some (.cells (cs.setIfInBounds i v) T) := by
  simp [World.setCell, Array.getElem?_modify, h]
def setL (rb : Nat) : List Value → Nat → World → World
  | [], _, w => w
  | v :: vs, i, w => setL rb vs (i + 1) (w.setCell ⟨rb, i, none⟩ v)
def setC : List Value → Nat → Array Value → Array Value
  | [], _, a => a
  | v :: vs, i, a => setC vs (i + 1) (a.setIfInBounds i v)
theorem setL_tn (rb : Nat) : ∀ (l : List Value) (i : Nat) (w : World), Tn rb w (setL rb l i w)
  | [], _, _ => Tn.refl _ _
  | v :: vs, i, w => (Tn.set w rb i v).trans (setL_tn rb vs (i + 1) _)
theorem setL_at (rb T : Nat) : ∀ (l : List Value) (i : Nat) (w : World) (cs : Array Value), w.heap[rb]? = some (.cells cs T) → (setL rb l i w).heap[rb]? = some (.cells (setC l i cs) T)
  | [], _, _, _, h => h
  | v :: vs, i, _, _, h => setL_at rb T vs (i + 1) _ _ (h_set h i v)
def kyVals (f1 c1 f2 c2 : Int) (g : Fg) : List Value := [.int .i64 f1, .int .i64 c1, .int .i64 f2, .int .i64 c2, .bool g.b, .bool g.e, .bool g.d, .bool g.f, .bool g.i, .bool g.n, .bool g.r]
theorem setC_ky (f1 c1 f2 c2 : Int) (g : Fg) : setC (kyVals f1 c1 f2 c2 g) 0 (mkK 0 0 0 0 fg0) = mkK f1 c1 f2 c2 g := by simp [setC, kyVals, mkK]
theorem Kw.told {w : World} {fb rb kb : Nat} {wh : Fg} {f1 c1 f2 c2 : Int} {g : Fg} {wx : World} (h : Kw w fb rb kb wh f1 c1 f2 c2 g wx) : (setL rb (kyVals f1 c1 f2 c2 g) 0 wx).heap[rb]? = some (.cells (mkK f1 c1 f2 c2 g) 68) ∧ Below w.heap.size w (setL rb (kyVals f1 c1 f2 c2 g) 0 wx) := by
  have hg := h.ge
  have ht := setL_tn rb (kyVals f1 c1 f2 c2 g) 0 wx
  have hs := h.bl.size
  have ha := setL_at rb 68 (kyVals f1 c1 f2 c2 g) 0 wx _ h.rb_
  rw [setC_ky] at ha
  generalize setL rb (kyVals f1 c1 f2 c2 g) 0 wx = U at ht ha ⊢
  exact ⟨ha, ht.os.trans h.bl.os, ht.tape.trans h.bl.tape, ht.output.trans h.bl.output, Nat.le_trans hs ht.size, fun k hk => (ht.block k (by omega) (by omega)).trans (h.bl.block k hk)⟩
/-- A key's first place stored. -/
theorem Kw.from_ {w : World} {fb rb kb : Nat} {wh : Fg} {f1 c1 f2 c2 : Int} {g : Fg} {wx : World} (h : Kw w fb rb kb wh f1 c1 f2 c2 g wx) (f c : Int) : Kw w fb rb kb wh f c f2 c2 g ((wx.setCell ⟨kb, 0, none⟩ (.int .i64 f)).setCell ⟨kb, 1, none⟩ (.int .i64 c)) :=
  h.turn ((Tn.set _ _ _ _).trans (Tn.set _ _ _ _)) (by simp [World.setCell, Array.getElem?_modify, h.kb_, mkK])
theorem Kw.to_ {w : World} {fb rb kb : Nat} {wh : Fg} {f1 c1 f2 c2 : Int} {g : Fg} {wx : World} (h : Kw w fb rb kb wh f1 c1 f2 c2 g wx) (f c : Int) : Kw w fb rb kb wh f1 c1 f c g ((wx.setCell ⟨kb, 2, none⟩ (.int .i64 f)).setCell ⟨kb, 3, none⟩ (.int .i64 c)) :=
  h.turn ((Tn.set _ _ _ _).trans (Tn.set _ _ _ _)) (by simp [World.setCell, Array.getElem?_modify, h.kb_, mkK])
theorem Kw.al {w : World} {fb rb kb : Nat} {wh : Fg} {f1 c1 f2 c2 : Int} {g : Fg} {wx : World} (h : Kw w fb rb kb wh f1 c1 f2 c2 g wx) (o : Obj) : Kw w fb rb kb wh f1 c1 f2 c2 g (wx.alloc o) :=
  h.turn (Tn.alloc _ _) (by rw [heap_al, if_neg (by have := (Array.getElem?_eq_some_iff.1 h.kb_).1; omega)]; exact h.kb_)
theorem Kw.fl_ {w : World} {fb rb kb : Nat} {wh : Fg} {f1 c1 f2 c2 : Int} {g : Fg} {wx : World} (h : Kw w fb rb kb wh f1 c1 f2 c2 g wx) : Kw w fb rb kb wh f1 c1 f2 c2 wh (((((((wx.setCell ⟨kb, 4, none⟩ (.bool wh.b)).setCell ⟨kb, 5, none⟩ (.bool wh.e)).setCell ⟨kb, 6, none⟩ (.bool wh.d)).setCell ⟨kb, 7, none⟩ (.bool wh.f)).setCell ⟨kb, 8, none⟩ (.bool wh.i)).setCell ⟨kb, 9, none⟩ (.bool wh.n)).setCell ⟨kb, 10, none⟩ (.bool wh.r)) :=
  h.turn (((((((Tn.set _ _ _ _).trans (Tn.set _ _ _ _)).trans (Tn.set _ _ _ _)).trans (Tn.set _ _ _ _)).trans (Tn.set _ _ _ _)).trans (Tn.set _ _ _ _)).trans (Tn.set _ _ _ _)) (by simp [World.setCell, Array.getElem?_modify, h.kb_, mkK])
def tw (l : List UInt8) : Nat := (l.takeWhile notComma).length
theorem tw_yes (d : ByteArray) (k : Nat) (h : k < d.size) (hc : d[k] = 44) : k + tw (d.data.toList.drop k) = k := by
  rw [by_drop d k h]; unfold tw; rw [List.takeWhile_cons, if_neg (by simp [notComma, hc])]; rfl
theorem tw_no (d : ByteArray) (k : Nat) (h : k < d.size) (hc : ¬ d[k] = 44) : k + tw (d.data.toList.drop k) = (k + 1) + tw (d.data.toList.drop (k + 1)) := by
  rw [by_drop d k h]; unfold tw; rw [List.takeWhile_cons, if_pos (by simp [notComma, hc]), List.length_cons]; omega
theorem placeS_ok {l : List UInt8} {g : Fg} {b : Bool} {q : Int × Int × Nat × Fg} (h : placeS l g b = some q) : (1 ≤ q.1 ∧ q.1 ≤ 2147483647) ∧ (0 ≤ q.2.1 ∧ q.2.1 ≤ 2147483647) ∧ q.2.2.1 ≤ l.length := by
  unfold placeS at h
  split at h
  · cases h
  · rename_i hb
    have hv := numT_le (l.take (dgs l))
    have h1 : 1 ≤ (numT (l.take (dgs l))).1 := by omega
    unfold placeT at h
    split at h
    · simp only at h
      split at h
      · cases h
      · have hv2 := numT_le (((l.drop (dgs l)).drop 1).take (dgs ((l.drop (dgs l)).drop 1)))
        rw [Option.map_eq_some_iff] at h
        obtain ⟨g', _, rfl⟩ := h
        refine ⟨⟨h1, hv.2⟩, hv2, ?_⟩
        simp only [List.length_drop]; omega
    · rw [Option.map_eq_some_iff] at h
      obtain ⟨g', _, rfl⟩ := h
      refine ⟨⟨h1, hv.2⟩, by simp, ?_⟩
      simp only [List.length_drop]; omega
def KyTold (r : Option Ky) (e : Ending) : Prop := match r with
  | none => ∃ f1 c1 f2 c2 g, e = .returned (.tuple #[.agg (mkK f1 c1 f2 c2 g), .bool false])
  | some k => e = .returned (.tuple #[.agg k.cells, .bool true])
theorem info_ky : (Tryd.prog.info? 68).map (·.size) = some 11 := by kernel_rfl
theorem results_ky {fn : Func} {p u : Tmp} (h : fn.results = #[.cell p 68, .tmp u]) {tmps : Array Value} {w : World} {b : Nat} {cs : Array Value} {y : Value} (hp : tmps.getD p undef = .pointer (some ⟨b, 0, none⟩)) (hg : w.heap[b]? = some (.cells cs 68)) (hc : cs.size = 11) (hy : tmps.getD u undef = y) :
    (results fn tmps).run Tryd.prog w = .ok (.tuple #[.agg cs, y]) w := by
  rw [results_cell_tmp h, hp, hy]
  simp [asAddr, Result.andThen, run_loadVar_row w b 68 68 cs (0, 0) _ hg Tryd.underlying68 rfl (by rw [info_ky, hc])]

set_option maxHeartbeats 4000000 in
set_option maxRecDepth 100000 in
theorem key_c (s : ByteArray) (wh : Fg) (w : World) (hs : s.size ≤ 2097152) :
    Calls Tryd.prog 24 #[.string s, wh.val] w fun e w' => KyTold (keyS s.data.toList wh) e ∧ Below w.heap.size w w' := by
  unfold Fg.val
  simp only [Fg.cells]
  go_enter Tryd.func24, Tryd.ntmps24
  go_wp2_with fail
  go_loop [6, 7] (fun av iv => ∃ (k : Nat) (at_ : Nat), k ≤ s.size ∧ iv = .int .i64 ((k : Int) - 1) ∧ av = .int .i64 at_ ∧ at_ ≤ s.size ∧ Hid (at_ = k + tw (s.data.toList.drop k))) (fun _ iv => (intOf iv + 1).toNat)
  case atStart => exact ⟨s.size, s.size, by omega, by go_num, rfl, by omega, by show _ = _; rw [by_drop_end s s.size (Nat.le_refl _)]; rfl⟩
  case round =>
    obtain ⟨k, at_, hk, rfl, rfl, hat, HA⟩ := hrel
    by_cases hlt : 0 < k
    · obtain ⟨k, rfl⟩ : ∃ j, k = j + 1 := ⟨k - 1, by omega⟩
      have hkk : ((k + 1 : Nat) : Int) - 1 = (k : Int) := by omega
      rw [hkk]
      clear hkk
      have hks : k < s.size := by omega
      by_cases hc : s[k] = 44
      · have e1 : ((s[k].toNat : Int) == 44) = true := u8_yes 44 (by omega) hc
        have HA2 : Hid (k = k + tw (s.data.toList.drop k)) := (tw_yes s k hks hc).symm
        go_wp2_with fail
        exact ⟨⟨k, k, by omega, by go_num, rfl, by omega, HA2⟩, by simp [intOf] <;> omega⟩
      · have e1 : ((s[k].toNat : Int) == 44) = false := u8_no 44 (by omega) hc
        have HA2 : Hid (at_ = k + tw (s.data.toList.drop k)) := HA.out.trans (tw_no s k hks hc).symm
        go_wp2_with fail
        exact ⟨⟨k, at_, by omega, by go_num, rfl, by omega, HA2⟩, by simp [intOf] <;> omega⟩
    · obtain rfl : k = 0 := by omega
      have HA2 : Hid (tw s.data.toList = at_) := by
        have := HA.out
        rw [List.drop_zero, Nat.zero_add] at this
        exact this.symm
      clear HA
      go_upto_region 8 with fail
      obtain ⟨W, hW⟩ : ∃ W, ((w.alloc (.cells #[.bool wh.b, .bool wh.e, .bool wh.d, .bool wh.f, .bool wh.i, .bool wh.n, .bool wh.r] 58)).alloc (.cells #[.int .i64 0, .int .i64 0, .int .i64 0, .int .i64 0, .bool false, .bool false, .bool false, .bool false, .bool false, .bool false, .bool false] 68)).alloc (.cells #[.int .i64 0, .int .i64 0, .int .i64 0, .int .i64 0, .bool false, .bool false, .bool false, .bool false, .bool false, .bool false, .bool false] 68) = W := ⟨_, rfl⟩
      rw [hW]
      obtain ⟨FB, hFB⟩ : ∃ R, w.heap.size = R := ⟨_, rfl⟩
      obtain ⟨RB, hRB⟩ : ∃ R, w.heap.size + 1 = R := ⟨_, rfl⟩
      obtain ⟨KB, hKB⟩ : ∃ R, w.heap.size + 1 + 1 = R := ⟨_, rfl⟩
      have HK : Hid (Kw w FB RB KB wh 0 0 0 0 fg0 W) := by
        rw [← hW, ← hFB, ← hRB, ← hKB]
        refine ⟨by rw [heap_al, if_pos (by simp)]; rfl, by rw [heap_al, if_neg (by simp), heap_al, if_pos (by simp)]; rfl, by rw [heap_al, if_neg (by simp; omega), heap_al, if_neg (by simp), heap_al, if_pos rfl], below_new (below_new (below_new (Below.refl _ _))), by omega⟩
      rw [hKB, hRB, hFB]
      clear hW hFB hRB hKB
      have HKS : Hid (keyS s.data.toList wh = (placeS (s.data.toList.take at_) fg0 false).bind fun p => if s.data.toList.drop at_ = [] then some ⟨p.1, p.2.1, 0, 0, if p.2.2.1 = 0 then wh else p.2.2.2⟩ else (placeS (s.data.toList.drop (at_ + 1)) p.2.2.2 true).map fun q => ⟨p.1, p.2.1, q.1, q.2.1, if p.2.2.1 + q.2.2.1 = 0 then wh else q.2.2.2⟩) := by
        show _ = _
        unfold keyS
        rw [takeWhile_take notComma, dropWhile_drop notComma, show (s.data.toList.takeWhile notComma).length = at_ from HA2.out, List.drop_drop]
      have hx1 := ext_take s at_
      have hsz1 : (⟨(s.data.toList.take at_).toArray⟩ : ByteArray).size ≤ 2097152 := by rw [arr_size, List.length_take]; have : s.data.toList.length = s.size := rfl; omega
      have hp1 := place_c (mk_K 0 0 0 0) KB 68 fg0 ⟨(s.data.toList.take at_).toArray⟩ false W hsz1 HK.out.kb_
      unfold PlTold at hp1
      simp only at hp1
      cases hpl : placeS (s.data.toList.take at_) fg0 false with
      | none =>
        rw [hpl] at hp1 HKS
        have HN : Hid (keyS s.data.toList wh = none) := HKS.out
        go_upto_region 10 with (go_at_call 39; refine hp1.mono ?_; rintro e w2 ⟨⟨pf, pc, pn, rfl, g', hf2⟩, ht2⟩; have HK2 := Lib.hid (HK.out.turn ht2 hf2); have HKo := Lib.hid (fun o => HK2.out.al o); have a0 := fun o => (HKo.out o).kc 0 rfl; have a1 := fun o => (HKo.out o).kc 1 rfl; have b0 := fun o => (HKo.out o).kz 0; have b1 := fun o => (HKo.out o).kz 1; clear hf2 ht2)
        obtain ⟨w4, hw4⟩ : ∃ W, ((w2.alloc (.cells #[.int .i64 pf, .int .i64 pc] 66)).setCell ⟨KB, 0, none⟩ (.int .i64 pf)).setCell ⟨KB, 1, none⟩ (.int .i64 pc) = W := ⟨_, rfl⟩
        rw [hw4]
        have HK4 : Hid (Kw w FB RB KB wh pf pc 0 0 g' w4) := by rw [← hw4]; exact (HK2.out.al _).from_ pf pc
        clear hw4 a0 a1 b0 b1 HKo HK2 HK
        have k0 : w4.cell? ⟨KB, 0, none⟩ = some (.int .i64 pf) := HK4.out.kc 0 rfl
        have k1 : w4.cell? ⟨KB, 1, none⟩ = some (.int .i64 pc) := HK4.out.kc 1 rfl
        have k2 : w4.cell? ⟨KB, 2, none⟩ = some (.int .i64 0) := HK4.out.kc 2 rfl
        have k3 : w4.cell? ⟨KB, 3, none⟩ = some (.int .i64 0) := HK4.out.kc 3 rfl
        have k4 : w4.cell? ⟨KB, 4, none⟩ = some (.bool g'.b) := HK4.out.kc 4 rfl
        have k5 : w4.cell? ⟨KB, 5, none⟩ = some (.bool g'.e) := HK4.out.kc 5 rfl
        have k6 : w4.cell? ⟨KB, 6, none⟩ = some (.bool g'.d) := HK4.out.kc 6 rfl
        have k7 : w4.cell? ⟨KB, 7, none⟩ = some (.bool g'.f) := HK4.out.kc 7 rfl
        have k8 : w4.cell? ⟨KB, 8, none⟩ = some (.bool g'.i) := HK4.out.kc 8 rfl
        have k9 : w4.cell? ⟨KB, 9, none⟩ = some (.bool g'.n) := HK4.out.kc 9 rfl
        have k10 : w4.cell? ⟨KB, 10, none⟩ = some (.bool g'.r) := HK4.out.kc 10 rfl
        have r0 : w4.cell? ⟨RB, 0, none⟩ = some (.int .i64 0) := HK4.out.rc 0 rfl
        have z0 := HK4.out.rz 0
        have r1 : w4.cell? ⟨RB, 1, none⟩ = some (.int .i64 0) := HK4.out.rc 1 rfl
        have z1 := HK4.out.rz 1
        have r2 : w4.cell? ⟨RB, 2, none⟩ = some (.int .i64 0) := HK4.out.rc 2 rfl
        have z2 := HK4.out.rz 2
        have r3 : w4.cell? ⟨RB, 3, none⟩ = some (.int .i64 0) := HK4.out.rc 3 rfl
        have z3 := HK4.out.rz 3
        have r4 : w4.cell? ⟨RB, 4, none⟩ = some (.bool false) := HK4.out.rc 4 rfl
        have z4 := HK4.out.rz 4
        have r5 : w4.cell? ⟨RB, 5, none⟩ = some (.bool false) := HK4.out.rc 5 rfl
        have z5 := HK4.out.rz 5
        have r6 : w4.cell? ⟨RB, 6, none⟩ = some (.bool false) := HK4.out.rc 6 rfl
        have z6 := HK4.out.rz 6
        have r7 : w4.cell? ⟨RB, 7, none⟩ = some (.bool false) := HK4.out.rc 7 rfl
        have z7 := HK4.out.rz 7
        have r8 : w4.cell? ⟨RB, 8, none⟩ = some (.bool false) := HK4.out.rc 8 rfl
        have z8 := HK4.out.rz 8
        have r9 : w4.cell? ⟨RB, 9, none⟩ = some (.bool false) := HK4.out.rc 9 rfl
        have z9 := HK4.out.rz 9
        have r10 : w4.cell? ⟨RB, 10, none⟩ = some (.bool false) := HK4.out.rc 10 rfl
        have z10 := HK4.out.rz 10
        go_wp2_with fail
        have hto := HK4.out.told
        simp only [setL, kyVals, Nat.zero_add, Nat.reduceAdd] at hto
        refine bodyPost_ret (results_ky rfl rfl hto.1 rfl rfl) rfl ?_
        unfold KyTold
        rw [HN.out]
        exact ⟨⟨_, _, _, _, _, rfl⟩, hto.2⟩
      | some p =>
        obtain ⟨pf, pc, pn, g'⟩ := p
        rw [hpl] at hp1 HKS
        simp only [Option.bind_some] at hp1 HKS
        go_upto_region 10 with (go_at_call 39; refine hp1.mono ?_; rintro e w2 ⟨⟨rfl, hf2⟩, ht2⟩; have HK2 := Lib.hid (HK.out.turn ht2 hf2); have HKo := Lib.hid (fun o => HK2.out.al o); have a0 := fun o => (HKo.out o).kc 0 rfl; have a1 := fun o => (HKo.out o).kc 1 rfl; have b0 := fun o => (HKo.out o).kz 0; have b1 := fun o => (HKo.out o).kz 1; clear hf2 ht2)
        obtain ⟨w4, hw4⟩ : ∃ W, ((w2.alloc (.cells #[.int .i64 pf, .int .i64 pc] 66)).setCell ⟨KB, 0, none⟩ (.int .i64 pf)).setCell ⟨KB, 1, none⟩ (.int .i64 pc) = W := ⟨_, rfl⟩
        rw [hw4]
        have HK4 : Hid (Kw w FB RB KB wh pf pc 0 0 g' w4) := by rw [← hw4]; exact (HK2.out.al _).from_ pf pc
        clear hw4 a0 a1 b0 b1 HKo HK2 HK hp1
        have hpb := placeS_ok hpl
        have hpn : (pn : Int) ≤ 2097152 := by
          have h1 := hpb.2.2
          rw [List.length_take] at h1
          have h2 : s.data.toList.length = s.size := rfl
          simp only at h1
          omega
        by_cases hlt2 : at_ < s.size
        · have hde : ¬ s.data.toList.drop at_ = [] := by
            intro e
            have h1 := congrArg List.length e
            rw [List.length_drop] at h1
            have h2 : s.data.toList.length = s.size := rfl
            simp at h1
            omega
          rw [if_neg hde] at HKS
          clear hde
          have hx2 := ext_drop s (at_ + 1)
          have hsz2 : (⟨(s.data.toList.drop (at_ + 1)).toArray⟩ : ByteArray).size ≤ 2097152 := by rw [arr_size, List.length_drop]; have : s.data.toList.length = s.size := rfl; omega
          have hp2 := place_c (mk_K pf pc 0 0) KB 68 g' ⟨(s.data.toList.drop (at_ + 1)).toArray⟩ true w4 hsz2 HK4.out.kb_
          unfold PlTold at hp2
          simp only at hp2
          cases hpl2 : placeS (s.data.toList.drop (at_ + 1)) g' true with
          | none =>
            rw [hpl2] at hp2 HKS
            have HN : Hid (keyS s.data.toList wh = none) := HKS.out
            go_upto_region 15 with (go_at_call 39; refine hp2.mono ?_; rintro e w5 ⟨⟨qf, qc, qn, rfl, g3, hf5⟩, ht5⟩; have HK5 := Lib.hid (HK4.out.turn ht5 hf5); clear hf5 ht5)
            obtain ⟨w6, hw6⟩ : ∃ W, w5.alloc (.cells #[.int .i64 qf, .int .i64 qc] 66) = W := ⟨_, rfl⟩
            rw [hw6]
            have HK6 : Hid (Kw w FB RB KB wh pf pc 0 0 g3 w6) := by rw [← hw6]; exact HK5.out.al _
            clear hw6 HK5 HK4 hp2
            have k0 : w6.cell? ⟨KB, 0, none⟩ = some (.int .i64 pf) := HK6.out.kc 0 rfl
            have k1 : w6.cell? ⟨KB, 1, none⟩ = some (.int .i64 pc) := HK6.out.kc 1 rfl
            have k2 : w6.cell? ⟨KB, 2, none⟩ = some (.int .i64 0) := HK6.out.kc 2 rfl
            have k3 : w6.cell? ⟨KB, 3, none⟩ = some (.int .i64 0) := HK6.out.kc 3 rfl
            have k4 : w6.cell? ⟨KB, 4, none⟩ = some (.bool g3.b) := HK6.out.kc 4 rfl
            have k5 : w6.cell? ⟨KB, 5, none⟩ = some (.bool g3.e) := HK6.out.kc 5 rfl
            have k6 : w6.cell? ⟨KB, 6, none⟩ = some (.bool g3.d) := HK6.out.kc 6 rfl
            have k7 : w6.cell? ⟨KB, 7, none⟩ = some (.bool g3.f) := HK6.out.kc 7 rfl
            have k8 : w6.cell? ⟨KB, 8, none⟩ = some (.bool g3.i) := HK6.out.kc 8 rfl
            have k9 : w6.cell? ⟨KB, 9, none⟩ = some (.bool g3.n) := HK6.out.kc 9 rfl
            have k10 : w6.cell? ⟨KB, 10, none⟩ = some (.bool g3.r) := HK6.out.kc 10 rfl
            have r0 : w6.cell? ⟨RB, 0, none⟩ = some (.int .i64 0) := HK6.out.rc 0 rfl
            have z0 := HK6.out.rz 0
            have r1 : w6.cell? ⟨RB, 1, none⟩ = some (.int .i64 0) := HK6.out.rc 1 rfl
            have z1 := HK6.out.rz 1
            have r2 : w6.cell? ⟨RB, 2, none⟩ = some (.int .i64 0) := HK6.out.rc 2 rfl
            have z2 := HK6.out.rz 2
            have r3 : w6.cell? ⟨RB, 3, none⟩ = some (.int .i64 0) := HK6.out.rc 3 rfl
            have z3 := HK6.out.rz 3
            have r4 : w6.cell? ⟨RB, 4, none⟩ = some (.bool false) := HK6.out.rc 4 rfl
            have z4 := HK6.out.rz 4
            have r5 : w6.cell? ⟨RB, 5, none⟩ = some (.bool false) := HK6.out.rc 5 rfl
            have z5 := HK6.out.rz 5
            have r6 : w6.cell? ⟨RB, 6, none⟩ = some (.bool false) := HK6.out.rc 6 rfl
            have z6 := HK6.out.rz 6
            have r7 : w6.cell? ⟨RB, 7, none⟩ = some (.bool false) := HK6.out.rc 7 rfl
            have z7 := HK6.out.rz 7
            have r8 : w6.cell? ⟨RB, 8, none⟩ = some (.bool false) := HK6.out.rc 8 rfl
            have z8 := HK6.out.rz 8
            have r9 : w6.cell? ⟨RB, 9, none⟩ = some (.bool false) := HK6.out.rc 9 rfl
            have z9 := HK6.out.rz 9
            have r10 : w6.cell? ⟨RB, 10, none⟩ = some (.bool false) := HK6.out.rc 10 rfl
            have z10 := HK6.out.rz 10
            go_wp2_with fail
            have hto := HK6.out.told
            simp only [setL, kyVals, Nat.zero_add, Nat.reduceAdd] at hto
            refine bodyPost_ret (results_ky rfl rfl hto.1 rfl rfl) rfl ?_
            unfold KyTold
            rw [HN.out]
            exact ⟨⟨_, _, _, _, _, rfl⟩, hto.2⟩
          | some q =>
            obtain ⟨qf, qc, qn, g3⟩ := q
            rw [hpl2] at hp2 HKS
            simp only [Option.map_some] at hp2 HKS
            have hqn : (qn : Int) ≤ 2097152 := by
              have h1 := (placeS_ok hpl2).2.2
              rw [List.length_drop] at h1
              have h2 : s.data.toList.length = s.size := rfl
              simp only at h1
              omega
            go_upto_region 19 with (go_at_call 39; refine hp2.mono ?_; rintro e w5 ⟨⟨rfl, hf5⟩, ht5⟩; have HK5 := Lib.hid (HK4.out.turn ht5 hf5); have HKo := Lib.hid (fun o => HK5.out.al o); have a2 : ∀ o, (w5.alloc o).cell? ⟨KB, 2, none⟩ = some (.int .i64 0) := fun o => (HKo.out o).kc 2 rfl; have a3 : ∀ o, (w5.alloc o).cell? ⟨KB, 3, none⟩ = some (.int .i64 0) := fun o => (HKo.out o).kc 3 rfl; have b2 := fun o => (HKo.out o).kz 2; have b3 := fun o => (HKo.out o).kz 3; clear hf5 ht5)
            obtain ⟨w6, hw6⟩ : ∃ W, ((w5.alloc (.cells #[.int .i64 qf, .int .i64 qc] 66)).setCell ⟨KB, 2, none⟩ (.int .i64 qf)).setCell ⟨KB, 3, none⟩ (.int .i64 qc) = W := ⟨_, rfl⟩
            rw [hw6]
            have HK6 : Hid (Kw w FB RB KB wh pf pc qf qc g3 w6) := by rw [← hw6]; exact (HK5.out.al _).to_ qf qc
            clear hw6 HK5 HK4 hp2 HKo a2 a3 b2 b3
            by_cases hz : pn + qn = 0
            · have HN : Hid (keyS s.data.toList wh = some ⟨pf, pc, qf, qc, wh⟩) := by show _ = _; rw [HKS.out]; rw [if_pos hz]
              have k0 : w6.cell? ⟨KB, 0, none⟩ = some (.int .i64 pf) := HK6.out.kc 0 rfl
              have k1 : w6.cell? ⟨KB, 1, none⟩ = some (.int .i64 pc) := HK6.out.kc 1 rfl
              have k2 : w6.cell? ⟨KB, 2, none⟩ = some (.int .i64 qf) := HK6.out.kc 2 rfl
              have k3 : w6.cell? ⟨KB, 3, none⟩ = some (.int .i64 qc) := HK6.out.kc 3 rfl
              have k4 : w6.cell? ⟨KB, 4, none⟩ = some (.bool g3.b) := HK6.out.kc 4 rfl
              have k5 : w6.cell? ⟨KB, 5, none⟩ = some (.bool g3.e) := HK6.out.kc 5 rfl
              have k6 : w6.cell? ⟨KB, 6, none⟩ = some (.bool g3.d) := HK6.out.kc 6 rfl
              have k7 : w6.cell? ⟨KB, 7, none⟩ = some (.bool g3.f) := HK6.out.kc 7 rfl
              have k8 : w6.cell? ⟨KB, 8, none⟩ = some (.bool g3.i) := HK6.out.kc 8 rfl
              have k9 : w6.cell? ⟨KB, 9, none⟩ = some (.bool g3.n) := HK6.out.kc 9 rfl
              have k10 : w6.cell? ⟨KB, 10, none⟩ = some (.bool g3.r) := HK6.out.kc 10 rfl
              have f0 : w6.cell? ⟨FB, 0, none⟩ = some (.bool wh.b) := HK6.out.fc 0 rfl
              have f1 : w6.cell? ⟨FB, 1, none⟩ = some (.bool wh.e) := HK6.out.fc 1 rfl
              have f2 : w6.cell? ⟨FB, 2, none⟩ = some (.bool wh.d) := HK6.out.fc 2 rfl
              have f3 : w6.cell? ⟨FB, 3, none⟩ = some (.bool wh.f) := HK6.out.fc 3 rfl
              have f4 : w6.cell? ⟨FB, 4, none⟩ = some (.bool wh.i) := HK6.out.fc 4 rfl
              have f5 : w6.cell? ⟨FB, 5, none⟩ = some (.bool wh.n) := HK6.out.fc 5 rfl
              have f6 : w6.cell? ⟨FB, 6, none⟩ = some (.bool wh.r) := HK6.out.fc 6 rfl
              have y4 := HK6.out.kz 4
              have y5 := HK6.out.kz 5
              have y6 := HK6.out.kz 6
              have y7 := HK6.out.kz 7
              have y8 := HK6.out.kz 8
              have y9 := HK6.out.kz 9
              have y10 := HK6.out.kz 10
              obtain ⟨hz1, hz2⟩ : pn = 0 ∧ qn = 0 := by omega
              subst hz1
              subst hz2
              go_upto_region 21 with fail
              obtain ⟨w9, hw9⟩ : ∃ W, ((((((w6.setCell ⟨KB, 4, none⟩ (.bool wh.b)).setCell ⟨KB, 5, none⟩ (.bool wh.e)).setCell ⟨KB, 6, none⟩ (.bool wh.d)).setCell ⟨KB, 7, none⟩ (.bool wh.f)).setCell ⟨KB, 8, none⟩ (.bool wh.i)).setCell ⟨KB, 9, none⟩ (.bool wh.n)).setCell ⟨KB, 10, none⟩ (.bool wh.r) = W := ⟨_, rfl⟩
              rw [hw9]
              have HK9 : Hid (Kw w FB RB KB wh pf pc qf qc wh w9) := by rw [← hw9]; exact HK6.out.fl_
              clear hw9 k0 k1 k2 k3 k4 k5 k6 k7 k8 k9 k10 f0 f1 f2 f3 f4 f5 f6 y4 y5 y6 y7 y8 y9 y10 HK6
              have k0 : w9.cell? ⟨KB, 0, none⟩ = some (.int .i64 pf) := HK9.out.kc 0 rfl
              have k1 : w9.cell? ⟨KB, 1, none⟩ = some (.int .i64 pc) := HK9.out.kc 1 rfl
              have k2 : w9.cell? ⟨KB, 2, none⟩ = some (.int .i64 qf) := HK9.out.kc 2 rfl
              have k3 : w9.cell? ⟨KB, 3, none⟩ = some (.int .i64 qc) := HK9.out.kc 3 rfl
              have k4 : w9.cell? ⟨KB, 4, none⟩ = some (.bool wh.b) := HK9.out.kc 4 rfl
              have k5 : w9.cell? ⟨KB, 5, none⟩ = some (.bool wh.e) := HK9.out.kc 5 rfl
              have k6 : w9.cell? ⟨KB, 6, none⟩ = some (.bool wh.d) := HK9.out.kc 6 rfl
              have k7 : w9.cell? ⟨KB, 7, none⟩ = some (.bool wh.f) := HK9.out.kc 7 rfl
              have k8 : w9.cell? ⟨KB, 8, none⟩ = some (.bool wh.i) := HK9.out.kc 8 rfl
              have k9 : w9.cell? ⟨KB, 9, none⟩ = some (.bool wh.n) := HK9.out.kc 9 rfl
              have k10 : w9.cell? ⟨KB, 10, none⟩ = some (.bool wh.r) := HK9.out.kc 10 rfl
              have r0 : w9.cell? ⟨RB, 0, none⟩ = some (.int .i64 0) := HK9.out.rc 0 rfl
              have z0 := HK9.out.rz 0
              have r1 : w9.cell? ⟨RB, 1, none⟩ = some (.int .i64 0) := HK9.out.rc 1 rfl
              have z1 := HK9.out.rz 1
              have r2 : w9.cell? ⟨RB, 2, none⟩ = some (.int .i64 0) := HK9.out.rc 2 rfl
              have z2 := HK9.out.rz 2
              have r3 : w9.cell? ⟨RB, 3, none⟩ = some (.int .i64 0) := HK9.out.rc 3 rfl
              have z3 := HK9.out.rz 3
              have r4 : w9.cell? ⟨RB, 4, none⟩ = some (.bool false) := HK9.out.rc 4 rfl
              have z4 := HK9.out.rz 4
              have r5 : w9.cell? ⟨RB, 5, none⟩ = some (.bool false) := HK9.out.rc 5 rfl
              have z5 := HK9.out.rz 5
              have r6 : w9.cell? ⟨RB, 6, none⟩ = some (.bool false) := HK9.out.rc 6 rfl
              have z6 := HK9.out.rz 6
              have r7 : w9.cell? ⟨RB, 7, none⟩ = some (.bool false) := HK9.out.rc 7 rfl
              have z7 := HK9.out.rz 7
              have r8 : w9.cell? ⟨RB, 8, none⟩ = some (.bool false) := HK9.out.rc 8 rfl
              have z8 := HK9.out.rz 8
              have r9 : w9.cell? ⟨RB, 9, none⟩ = some (.bool false) := HK9.out.rc 9 rfl
              have z9 := HK9.out.rz 9
              have r10 : w9.cell? ⟨RB, 10, none⟩ = some (.bool false) := HK9.out.rc 10 rfl
              have z10 := HK9.out.rz 10
              go_wp2_with fail
              have hto := HK9.out.told
              simp only [setL, kyVals, Nat.zero_add, Nat.reduceAdd] at hto
              refine bodyPost_ret (results_ky rfl rfl hto.1 rfl rfl) rfl ?_
              unfold KyTold
              rw [HN.out]
              exact ⟨rfl, hto.2⟩
            · have HN : Hid (keyS s.data.toList wh = some ⟨pf, pc, qf, qc, g3⟩) := by show _ = _; rw [HKS.out]; rw [if_neg hz]
              have hz1 : (((pn : Int) + (qn : Int)) == 0) = false := by rw [beq_eq_false_iff_ne]; omega
              have hz2 : ¬ ((pn : Int) + (qn : Int) = 0) := by omega
              have hz3 : ¬ (pn = 0 ∧ qn = 0) := by omega
              have k0 : w6.cell? ⟨KB, 0, none⟩ = some (.int .i64 pf) := HK6.out.kc 0 rfl
              have k1 : w6.cell? ⟨KB, 1, none⟩ = some (.int .i64 pc) := HK6.out.kc 1 rfl
              have k2 : w6.cell? ⟨KB, 2, none⟩ = some (.int .i64 qf) := HK6.out.kc 2 rfl
              have k3 : w6.cell? ⟨KB, 3, none⟩ = some (.int .i64 qc) := HK6.out.kc 3 rfl
              have k4 : w6.cell? ⟨KB, 4, none⟩ = some (.bool g3.b) := HK6.out.kc 4 rfl
              have k5 : w6.cell? ⟨KB, 5, none⟩ = some (.bool g3.e) := HK6.out.kc 5 rfl
              have k6 : w6.cell? ⟨KB, 6, none⟩ = some (.bool g3.d) := HK6.out.kc 6 rfl
              have k7 : w6.cell? ⟨KB, 7, none⟩ = some (.bool g3.f) := HK6.out.kc 7 rfl
              have k8 : w6.cell? ⟨KB, 8, none⟩ = some (.bool g3.i) := HK6.out.kc 8 rfl
              have k9 : w6.cell? ⟨KB, 9, none⟩ = some (.bool g3.n) := HK6.out.kc 9 rfl
              have k10 : w6.cell? ⟨KB, 10, none⟩ = some (.bool g3.r) := HK6.out.kc 10 rfl
              have r0 : w6.cell? ⟨RB, 0, none⟩ = some (.int .i64 0) := HK6.out.rc 0 rfl
              have z0 := HK6.out.rz 0
              have r1 : w6.cell? ⟨RB, 1, none⟩ = some (.int .i64 0) := HK6.out.rc 1 rfl
              have z1 := HK6.out.rz 1
              have r2 : w6.cell? ⟨RB, 2, none⟩ = some (.int .i64 0) := HK6.out.rc 2 rfl
              have z2 := HK6.out.rz 2
              have r3 : w6.cell? ⟨RB, 3, none⟩ = some (.int .i64 0) := HK6.out.rc 3 rfl
              have z3 := HK6.out.rz 3
              have r4 : w6.cell? ⟨RB, 4, none⟩ = some (.bool false) := HK6.out.rc 4 rfl
              have z4 := HK6.out.rz 4
              have r5 : w6.cell? ⟨RB, 5, none⟩ = some (.bool false) := HK6.out.rc 5 rfl
              have z5 := HK6.out.rz 5
              have r6 : w6.cell? ⟨RB, 6, none⟩ = some (.bool false) := HK6.out.rc 6 rfl
              have z6 := HK6.out.rz 6
              have r7 : w6.cell? ⟨RB, 7, none⟩ = some (.bool false) := HK6.out.rc 7 rfl
              have z7 := HK6.out.rz 7
              have r8 : w6.cell? ⟨RB, 8, none⟩ = some (.bool false) := HK6.out.rc 8 rfl
              have z8 := HK6.out.rz 8
              have r9 : w6.cell? ⟨RB, 9, none⟩ = some (.bool false) := HK6.out.rc 9 rfl
              have z9 := HK6.out.rz 9
              have r10 : w6.cell? ⟨RB, 10, none⟩ = some (.bool false) := HK6.out.rc 10 rfl
              have z10 := HK6.out.rz 10
              go_wp2_with fail
              have hto := HK6.out.told
              simp only [setL, kyVals, Nat.zero_add, Nat.reduceAdd] at hto
              refine bodyPost_ret (results_ky rfl rfl hto.1 rfl rfl) rfl ?_
              unfold KyTold
              rw [HN.out]
              exact ⟨rfl, hto.2⟩
        · have hat2 : at_ = s.size := by omega
          have hde : s.data.toList.drop at_ = [] := List.drop_eq_nil_of_le (by show s.size ≤ at_; omega)
          rw [if_pos hde] at HKS
          clear hde
          by_cases hz : pn = 0
          · have HN : Hid (keyS s.data.toList wh = some ⟨pf, pc, 0, 0, wh⟩) := by show _ = _; rw [HKS.out]; rw [if_pos hz]
            have k0 : w4.cell? ⟨KB, 0, none⟩ = some (.int .i64 pf) := HK4.out.kc 0 rfl
            have k1 : w4.cell? ⟨KB, 1, none⟩ = some (.int .i64 pc) := HK4.out.kc 1 rfl
            have k2 : w4.cell? ⟨KB, 2, none⟩ = some (.int .i64 0) := HK4.out.kc 2 rfl
            have k3 : w4.cell? ⟨KB, 3, none⟩ = some (.int .i64 0) := HK4.out.kc 3 rfl
            have k4 : w4.cell? ⟨KB, 4, none⟩ = some (.bool g'.b) := HK4.out.kc 4 rfl
            have k5 : w4.cell? ⟨KB, 5, none⟩ = some (.bool g'.e) := HK4.out.kc 5 rfl
            have k6 : w4.cell? ⟨KB, 6, none⟩ = some (.bool g'.d) := HK4.out.kc 6 rfl
            have k7 : w4.cell? ⟨KB, 7, none⟩ = some (.bool g'.f) := HK4.out.kc 7 rfl
            have k8 : w4.cell? ⟨KB, 8, none⟩ = some (.bool g'.i) := HK4.out.kc 8 rfl
            have k9 : w4.cell? ⟨KB, 9, none⟩ = some (.bool g'.n) := HK4.out.kc 9 rfl
            have k10 : w4.cell? ⟨KB, 10, none⟩ = some (.bool g'.r) := HK4.out.kc 10 rfl
            have f0 : w4.cell? ⟨FB, 0, none⟩ = some (.bool wh.b) := HK4.out.fc 0 rfl
            have f1 : w4.cell? ⟨FB, 1, none⟩ = some (.bool wh.e) := HK4.out.fc 1 rfl
            have f2 : w4.cell? ⟨FB, 2, none⟩ = some (.bool wh.d) := HK4.out.fc 2 rfl
            have f3 : w4.cell? ⟨FB, 3, none⟩ = some (.bool wh.f) := HK4.out.fc 3 rfl
            have f4 : w4.cell? ⟨FB, 4, none⟩ = some (.bool wh.i) := HK4.out.fc 4 rfl
            have f5 : w4.cell? ⟨FB, 5, none⟩ = some (.bool wh.n) := HK4.out.fc 5 rfl
            have f6 : w4.cell? ⟨FB, 6, none⟩ = some (.bool wh.r) := HK4.out.fc 6 rfl
            have y4 := HK4.out.kz 4
            have y5 := HK4.out.kz 5
            have y6 := HK4.out.kz 6
            have y7 := HK4.out.kz 7
            have y8 := HK4.out.kz 8
            have y9 := HK4.out.kz 9
            have y10 := HK4.out.kz 10
            subst hz
            go_upto_region 21 with fail
            obtain ⟨w9, hw9⟩ : ∃ W, ((((((w4.setCell ⟨KB, 4, none⟩ (.bool wh.b)).setCell ⟨KB, 5, none⟩ (.bool wh.e)).setCell ⟨KB, 6, none⟩ (.bool wh.d)).setCell ⟨KB, 7, none⟩ (.bool wh.f)).setCell ⟨KB, 8, none⟩ (.bool wh.i)).setCell ⟨KB, 9, none⟩ (.bool wh.n)).setCell ⟨KB, 10, none⟩ (.bool wh.r) = W := ⟨_, rfl⟩
            rw [hw9]
            have HK9 : Hid (Kw w FB RB KB wh pf pc 0 0 wh w9) := by rw [← hw9]; exact HK4.out.fl_
            clear hw9 k0 k1 k2 k3 k4 k5 k6 k7 k8 k9 k10 f0 f1 f2 f3 f4 f5 f6 y4 y5 y6 y7 y8 y9 y10 HK4
            have k0 : w9.cell? ⟨KB, 0, none⟩ = some (.int .i64 pf) := HK9.out.kc 0 rfl
            have k1 : w9.cell? ⟨KB, 1, none⟩ = some (.int .i64 pc) := HK9.out.kc 1 rfl
            have k2 : w9.cell? ⟨KB, 2, none⟩ = some (.int .i64 0) := HK9.out.kc 2 rfl
            have k3 : w9.cell? ⟨KB, 3, none⟩ = some (.int .i64 0) := HK9.out.kc 3 rfl
            have k4 : w9.cell? ⟨KB, 4, none⟩ = some (.bool wh.b) := HK9.out.kc 4 rfl
            have k5 : w9.cell? ⟨KB, 5, none⟩ = some (.bool wh.e) := HK9.out.kc 5 rfl
            have k6 : w9.cell? ⟨KB, 6, none⟩ = some (.bool wh.d) := HK9.out.kc 6 rfl
            have k7 : w9.cell? ⟨KB, 7, none⟩ = some (.bool wh.f) := HK9.out.kc 7 rfl
            have k8 : w9.cell? ⟨KB, 8, none⟩ = some (.bool wh.i) := HK9.out.kc 8 rfl
            have k9 : w9.cell? ⟨KB, 9, none⟩ = some (.bool wh.n) := HK9.out.kc 9 rfl
            have k10 : w9.cell? ⟨KB, 10, none⟩ = some (.bool wh.r) := HK9.out.kc 10 rfl
            have r0 : w9.cell? ⟨RB, 0, none⟩ = some (.int .i64 0) := HK9.out.rc 0 rfl
            have z0 := HK9.out.rz 0
            have r1 : w9.cell? ⟨RB, 1, none⟩ = some (.int .i64 0) := HK9.out.rc 1 rfl
            have z1 := HK9.out.rz 1
            have r2 : w9.cell? ⟨RB, 2, none⟩ = some (.int .i64 0) := HK9.out.rc 2 rfl
            have z2 := HK9.out.rz 2
            have r3 : w9.cell? ⟨RB, 3, none⟩ = some (.int .i64 0) := HK9.out.rc 3 rfl
            have z3 := HK9.out.rz 3
            have r4 : w9.cell? ⟨RB, 4, none⟩ = some (.bool false) := HK9.out.rc 4 rfl
            have z4 := HK9.out.rz 4
            have r5 : w9.cell? ⟨RB, 5, none⟩ = some (.bool false) := HK9.out.rc 5 rfl
            have z5 := HK9.out.rz 5
            have r6 : w9.cell? ⟨RB, 6, none⟩ = some (.bool false) := HK9.out.rc 6 rfl
            have z6 := HK9.out.rz 6
            have r7 : w9.cell? ⟨RB, 7, none⟩ = some (.bool false) := HK9.out.rc 7 rfl
            have z7 := HK9.out.rz 7
            have r8 : w9.cell? ⟨RB, 8, none⟩ = some (.bool false) := HK9.out.rc 8 rfl
            have z8 := HK9.out.rz 8
            have r9 : w9.cell? ⟨RB, 9, none⟩ = some (.bool false) := HK9.out.rc 9 rfl
            have z9 := HK9.out.rz 9
            have r10 : w9.cell? ⟨RB, 10, none⟩ = some (.bool false) := HK9.out.rc 10 rfl
            have z10 := HK9.out.rz 10
            go_wp2_with fail
            have hto := HK9.out.told
            simp only [setL, kyVals, Nat.zero_add, Nat.reduceAdd] at hto
            refine bodyPost_ret (results_ky rfl rfl hto.1 rfl rfl) rfl ?_
            unfold KyTold
            rw [HN.out]
            exact ⟨rfl, hto.2⟩
          · have HN : Hid (keyS s.data.toList wh = some ⟨pf, pc, 0, 0, g'⟩) := by show _ = _; rw [HKS.out]; rw [if_neg hz]
            have hz1 : ((pn : Int) == 0) = false := by rw [beq_eq_false_iff_ne]; omega
            have k0 : w4.cell? ⟨KB, 0, none⟩ = some (.int .i64 pf) := HK4.out.kc 0 rfl
            have k1 : w4.cell? ⟨KB, 1, none⟩ = some (.int .i64 pc) := HK4.out.kc 1 rfl
            have k2 : w4.cell? ⟨KB, 2, none⟩ = some (.int .i64 0) := HK4.out.kc 2 rfl
            have k3 : w4.cell? ⟨KB, 3, none⟩ = some (.int .i64 0) := HK4.out.kc 3 rfl
            have k4 : w4.cell? ⟨KB, 4, none⟩ = some (.bool g'.b) := HK4.out.kc 4 rfl
            have k5 : w4.cell? ⟨KB, 5, none⟩ = some (.bool g'.e) := HK4.out.kc 5 rfl
            have k6 : w4.cell? ⟨KB, 6, none⟩ = some (.bool g'.d) := HK4.out.kc 6 rfl
            have k7 : w4.cell? ⟨KB, 7, none⟩ = some (.bool g'.f) := HK4.out.kc 7 rfl
            have k8 : w4.cell? ⟨KB, 8, none⟩ = some (.bool g'.i) := HK4.out.kc 8 rfl
            have k9 : w4.cell? ⟨KB, 9, none⟩ = some (.bool g'.n) := HK4.out.kc 9 rfl
            have k10 : w4.cell? ⟨KB, 10, none⟩ = some (.bool g'.r) := HK4.out.kc 10 rfl
            have r0 : w4.cell? ⟨RB, 0, none⟩ = some (.int .i64 0) := HK4.out.rc 0 rfl
            have z0 := HK4.out.rz 0
            have r1 : w4.cell? ⟨RB, 1, none⟩ = some (.int .i64 0) := HK4.out.rc 1 rfl
            have z1 := HK4.out.rz 1
            have r2 : w4.cell? ⟨RB, 2, none⟩ = some (.int .i64 0) := HK4.out.rc 2 rfl
            have z2 := HK4.out.rz 2
            have r3 : w4.cell? ⟨RB, 3, none⟩ = some (.int .i64 0) := HK4.out.rc 3 rfl
            have z3 := HK4.out.rz 3
            have r4 : w4.cell? ⟨RB, 4, none⟩ = some (.bool false) := HK4.out.rc 4 rfl
            have z4 := HK4.out.rz 4
            have r5 : w4.cell? ⟨RB, 5, none⟩ = some (.bool false) := HK4.out.rc 5 rfl
            have z5 := HK4.out.rz 5
            have r6 : w4.cell? ⟨RB, 6, none⟩ = some (.bool false) := HK4.out.rc 6 rfl
            have z6 := HK4.out.rz 6
            have r7 : w4.cell? ⟨RB, 7, none⟩ = some (.bool false) := HK4.out.rc 7 rfl
            have z7 := HK4.out.rz 7
            have r8 : w4.cell? ⟨RB, 8, none⟩ = some (.bool false) := HK4.out.rc 8 rfl
            have z8 := HK4.out.rz 8
            have r9 : w4.cell? ⟨RB, 9, none⟩ = some (.bool false) := HK4.out.rc 9 rfl
            have z9 := HK4.out.rz 9
            have r10 : w4.cell? ⟨RB, 10, none⟩ = some (.bool false) := HK4.out.rc 10 rfl
            have z10 := HK4.out.rz 10
            go_wp2_with fail
            have hto := HK4.out.told
            simp only [setL, kyVals, Nat.zero_add, Nat.reduceAdd] at hto
            refine bodyPost_ret (results_ky rfl rfl hto.1 rfl rfl) rfl ?_
            unfold KyTold
            rw [HN.out]
            exact ⟨rfl, hto.2⟩
end Go.Proofs.YtdgnbcbcfgfkmaaDoor
