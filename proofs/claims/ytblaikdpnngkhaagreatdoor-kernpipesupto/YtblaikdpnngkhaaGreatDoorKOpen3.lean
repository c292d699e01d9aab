/- The file is held; it is a descriptor's. -/
import Derived.Test.YtblaikdpnngkhaaGreatDoorKOpen2
namespace Go.Proofs.YtblaikdpnngkhaaGreatDoor
open Go.RowKit Go.Shelf Go.Maps

/-- A file of the tree, open. -/
structure Of (w w' : World) (k th t rt fm n e : Nat) (N : Nat) (D : DataW Value) (fs : Value) (used now last : Int) (md : Int) (c : Int) : Prop where
  e0 : w.heap.size ≤ e
  n0 : w.heap.size ≤ n
  hf : FiAt w' e c (last + 1) 2 2 0
  hn : NdAt w' n ⟨2, md, now, false, .pointer none, .map none, .slice none 0 0, 1, 1⟩
  hF : w'.ownsMap Tryz.prog 3 R fm 1 (mE.put (ik 2) (.held (ptr n)))
  hT : TrAt w' t (ptr rt) (.map (some fm)) (.int .i64 1) (.int .i64 2)
  hK : KnAt w' k (ptr t) fs used now th (last + 1)
  hM : w'.ownsMap Tryz.prog 3 R th (N + 1) (D.put (ik (last + 1)) (.held (iFi e)))

theorem mapi_ne {w : World} {b n t2 b2 kt : Nat} {D : DataW Value} {cs : Array Value} {fz : Nat × Nat} (h : w.ownsMap Tryz.prog kt R b n D) (h2 : w.heap[b2]? = some (.cells cs t2 fz)) : b ≠ b2 := fun e => by
  obtain ⟨es, c, he, _⟩ := h
  rw [e, h2] at he; cases he

set_option maxRecDepth 100000 in
set_option maxHeartbeats 4000000 in
theorem open_f (k th w0 t rt rm fm N : Nat) (D : DataW Value) (fs : Value) (used now last m : Int) (w : World) (hm : w.cell? ⟨0, 0, none⟩ = some (.int .i64 m)) (h : Tr0 w0 w t rt rm fm) (hK : KnAt w k (ptr t) fs used now th last) (hM : w.ownsMap Tryz.prog 3 R th N D) (hN : N < 999999) (h0 : 0 ≤ last) (h1 : last < 4611686018427387903) (hth : th ≠ fm ∧ th ≠ rm) :
    Calls Tryz.prog 55 #[ptr k, .string sE, .string p_f, .int .i64 2] w fun r w' => ∃ e n md, r = .returned (.tuple #[iFi e, .int .i64 0]) ∧ Of w w' k th t rt fm n e N D fs used now last md 0 ∧ Turn [t, fm, rm, k, th] w w' := by
  have hlts : t < w.heap.size ∧ fm < w.heap.size ∧ rm < w.heap.size ∧ k < w.heap.size ∧ th < w.heap.size := ⟨h.hT.lt, h.hF.lt, h.hM.lt, h_lt hK, hM.lt⟩
  have n1 := mapi_ne h.hF hK
  have n2 := mapi_ne h.hM hK
  have n3 := h_ne (show w.heap[t]? = _ from h.hT) hK (by decide)
  have n4 := mapi_ne hM (show w.heap[t]? = _ from h.hT)
  have n5 := mapi_ne hM hK
  have hre := reach_f k th w0 t rt rm fm fs used now last m w hm h hK
  have HH := Lib.hid (And.intro hK hM)
  clear hm h hK hM
  go_enter Tryz.func55, Tryz.ntmps55
  go_wp2_with fail
  refine hre.mono ?_
  rintro r w1 ⟨n, md, rfl, hMf, hU1⟩
  obtain ⟨hK, hM⟩ := HH.out
  have hz1 := hU1.size
  have hn0 := hMf.n0
  have hnl := hMf.hn.lt
  have hK1 := hU1.ob hK (by simp; omega)
  have hM1 := hU1.map hM (by simp; omega)
  obtain ⟨w2, hw2⟩ : ∃ w2, w2 = (w1.alloc (.cells #[.int .i64 2, .bool false, .int .i64 0, .int .i64 0, .int .i64 0, .int .i64 0] 60)).alloc (.cells #[.int .i64 0, .int .i64 0, .int .i64 2, .int .i64 2, .int .i64 0] 193) := ⟨_, rfl⟩
  have hU2 : Turn [] w1 w2 := by rw [hw2]; exact (Turn.alloc w1 _).trans (Turn.alloc _ _)
  have hf2 : FiAt w2 (w1.heap.size + 1) 0 0 2 2 0 := by rw [hw2]; exact al_new _ _ (by simp)
  have hadd := add_c k th N (ptr t) fs (iFi (w1.heap.size + 1)) used now last D w2 (hU2.ob hK1 (by simp)) (hU2.map hM1 (by simp)) (by omega) h0 (by omega)
  have hz2 := hU2.size
  have H2 := Lib.hid (And.intro (hMf.turn hU2 (by simp)) (And.intro hf2 (And.intro hU1 hU2)))
  have hfl := h_lt hf2
  clear HH hK hM hMf hU1 hK1 hM1 hU2 hf2 hre
  go_upto_region 9 with fail
  rw [← hw2]
  clear hw2
  go_wp2_with fail
  refine hadd.mono ?_
  rintro r w3 ⟨rfl, hK3, hM3, hU3⟩
  obtain ⟨hMf2, hf2, hU1, hU2⟩ := H2.out
  have hnl2 := hMf2.hn.lt
  have hf3 := hU3.ob hf2 (by simp; omega)
  have f1 := h_cell hf3 1 rfl
  have z1 := h_fz hf3 1
  obtain ⟨w4, hw4⟩ : ∃ w4, w4 = w3.setCell ⟨w1.heap.size + 1, 1, none⟩ (.int .i64 (last + 1)) := ⟨_, rfl⟩
  have hU4 : Turn [w1.heap.size + 1] w3 w4 := by rw [hw4]; exact Turn.set w3 _ 1 _ (by simp)
  have hf4 : FiAt w4 (w1.heap.size + 1) 0 (last + 1) 2 2 0 := by rw [hw4]; simpa using h_set hf3 1 (.int .i64 (last + 1))
  have hMf3 := hMf2.turn hU3 (by simp; omega)
  have hne4 := h_ne (show w3.heap[n]? = _ from hMf3.hn) hf3 (by decide)
  have hne5 := mapi_ne hMf3.hF hf3
  have hne6 := h_ne (show w3.heap[t]? = _ from hMf3.hT) hf3 (by decide)
  have hne7 := h_ne hK3 hf3 (by decide)
  have hne8 := mapi_ne hM3 hf3
  have hMf4 := hMf3.turn hU4 (by simp; omega)
  have hK4 := hU4.ob hK3 (by simp; omega)
  have hM4 := hU4.map hM3 (by simp; omega)
  have k0 := h_cell hK4 0 rfl
  have f2 := h_cell hf4 2 rfl
  have hh := Lib.hid (fun q => hold_c t n fm 1 _ 2 _ _ _ _ (w4.drewN q) hMf4.hT hMf4.hF (by decide) (look_put_same isMap_E (isKey_i 2) _) hMf4.hn (show (0 : Int) ≤ 0 by decide) (show (0 : Int) < 4611686018427387904 by decide))
  have HX := Lib.hid (And.intro hf4 (And.intro hMf4 (And.intro hK4 (And.intro hM4 (And.intro hU1 (And.intro hU2 (And.intro hU3 hU4)))))))
  have hnl4 := hMf4.hn.lt
  clear hadd H2 hMf2 hf2 hU1 hU2 hf3 hMf3 hMf4 hK3 hM3 hK4 hM4 hf4 hU3 hU4
  go_upto_region 10 with fail
  rw [← hw4]
  clear hw4 f1 z1
  have hh1 := hh.out 1
  go_region_with (go_at_call 108; refine hh1.mono ?_; rintro r w5 ⟨⟨x5, rfl⟩, hn5, hU5⟩)
  all_goals
    go_wp2_with fail
    refine bodyPost_ret (results_tmp2 rfl _ _ _) rfl ?_
    obtain ⟨hf4, hMf4, hK4, hM4, hU1, hU2, hU3, hU4⟩ := HX.out
    have hU5' : Turn [n] w4 w5 := ⟨hU5.os, hU5.tape, hU5.output, hU5.size, hU5.block⟩
    have e1 := h_ne hf4 (show w4.heap[n]? = _ from hMf4.hn) (by decide)
    have e2 := mapi_ne hMf4.hF (show w4.heap[n]? = _ from hMf4.hn)
    have e3 := h_ne (show w4.heap[t]? = _ from hMf4.hT) (show w4.heap[n]? = _ from hMf4.hn) (by decide)
    have e4 := h_ne hK4 (show w4.heap[n]? = _ from hMf4.hn) (by decide)
    have e5 := mapi_ne hM4 (show w4.heap[n]? = _ from hMf4.hn)
    refine ⟨w1.heap.size + 1, n, md, rfl, ⟨by omega, by omega, hU5'.ob hf4 (by simp; omega), hn5, hU5'.map hMf4.hF (by simp; omega), hU5'.tr hMf4.hT (by simp; omega), hU5'.ob hK4 (by simp; omega), hU5'.map hM4 (by simp; omega)⟩, ?_⟩
    have hz3 := hU3.size
    have hz4 := hU4.size
    exact ⟨hU5.os.trans (hU4.os.trans (hU3.os.trans (hU2.os.trans hU1.os))), hU5.tape.trans (hU4.tape.trans (hU3.tape.trans (hU2.tape.trans hU1.tape))), hU5.output.trans (hU4.output.trans (hU3.output.trans (hU2.output.trans hU1.output))), by have := hU5'.size; omega, fun x hx hs => by
      simp only [List.mem_cons, List.not_mem_nil, or_false, not_or] at hs
      rw [hU5'.block x (by omega) (by simp; omega), hU4.block x (by omega) (by simp; omega), hU3.block x (by omega) (by simp; omega), hU2.block x (by omega) (by simp), hU1.block x hx (by simp; omega)]⟩
end Go.Proofs.YtblaikdpnngkhaaGreatDoor
