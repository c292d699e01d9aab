/- The chapter's examples come out true. -/
import Derived.Lib.SmallJoins
import Derived.Test.YtbbmihlabllliaaGreatDoorKAw5
import Derived.Test.YtbbmihlabllliaaGreatDoorKBegunA
import Derived.Lib.ConvBytes
import Derived.Laws.BytesArg
import Derived.Laws.IdiomStrings
namespace Go.Proofs.YtbbmihlabllliaaGreatDoor
open Go.RowKit Go.Shelf Go.Maps

theorem conv_k {lo hi : Nat} {W : World} {v : Value} {l : List UInt8} (h : Kept lo hi W v l) : (convert 33 9 v).run Tryz.prog W = .ok (.string ⟨l.toArray⟩) W := by
  rcases h.ho.2 with ⟨rfl, h0⟩ | ⟨g, cap, cur, rfl, _, hg, _, _, hcs, htk⟩
  · obtain rfl := List.eq_nil_of_length_eq_zero h0
    exact run_convert_bytes_nil W 33 5 Tryz.underlying33 Tryz.underlying5 0 0 9 Tryz.underlying9
  · refine run_convert_bytes_back (P := Tryz.prog) _ 33 9 5 ⟨g, 0, none⟩ cap l Tryz.underlying33 Tryz.underlying5 Tryz.underlying9 (fun j hj => ?_)
    have e : (u8s l)[j]? = some (.int .u8 (l[j].toNat : Int)) := by simp [u8s, hj]
    rw [← htk, List.getElem?_take, if_pos (by omega)] at e
    rw [Addr.add_lit]
    simp only [World.cell?, hg]
    simpa using e

theorem Op5.al {w0 : World} {M : Nat} {w : World} {t rt fm k fb th t0 pb n e so re : Nat} {fv x1 x2 x3 x4 : Value} {md : Int} (h : Op5 w0 M w t rt fm k fb th t0 pb n e so re fv x1 x2 x3 x4 md) (o : Obj) : Op5 w0 M (w.alloc o) t rt fm k fb th t0 pb n e so re fv x1 x2 x3 x4 md := by
  have hU : Turn [] w (w.alloc o) := Turn.alloc w o
  exact { h with hf := hU.ob h.hf (by simp), hn := hU.nd h.hn (by simp), hF := hU.map h.hF (by simp), hT := hU.tr h.hT (by simp), hK := hU.ob h.hK (by simp), hFl := h.hFl.turn hU (by simp), T := hU.ob h.T (by simp), hp := hU.ob h.hp (by simp), bl := h.bl.alloc h.bl.size _ }

set_option maxRecDepth 100000 in
set_option maxHeartbeats 40000000 in
theorem awake_k (m : Int) (w : World) (hm : w.cell? ⟨0, 0, none⟩ = some (.int .i64 m)) : Calls Tryz.prog 6 #[] w fun e w' => e = .returned (.bool true) ∧ Below w.heap.size w w' := by
  have h0lt : 0 < w.heap.size := World.block_lt_of_cell? w _ hm
  obtain ⟨w1, hw1⟩ : ∃ w1, w1 = w.alloc (.cells #[.int .i64 1, .int .i64 1, .int .i64 2, .int .i64 0] 39) := ⟨_, rfl⟩
  have hB1 : Below w.heap.size w w1 := by rw [hw1]; exact (Below.refl _ w).alloc (Nat.le_refl _) _
  have hz1 : w1.heap.size = w.heap.size + 1 := by rw [hw1]; simp
  have hm1 : w1.cell? ⟨0, 0, none⟩ = some (.int .i64 m) := (hB1.cell (p := ⟨0, 0, none⟩) h0lt).trans hm
  have hob : w1.heap[w.heap.size]? = some (.cells #[.int .i64 1, .int .i64 1, .int .i64 2, .int .i64 0] 39) := by rw [hw1]; exact al_new _ _ rfl
  have hbe := begun_c2 w.heap.size (.slice (some ⟨w.heap.size, 0, none⟩) 2 2) l2 5 w1 (by decide) (by omega) (fun w' hB => ⟨_, 2, rfl, by decide, by decide, .inr ⟨0, rfl, fun j hj => by
    have hb' : w'.heap[w.heap.size]? = _ := (hB.block _ (by omega)).trans hob
    have hj2 : j = 0 ∨ j = 1 := by have : l2.length = 2 := rfl; omega
    rcases hj2 with rfl | rfl
    · exact ⟨h_cell hb' 0 rfl, h_cell hb' 1 rfl⟩
    · exact ⟨h_cell hb' 2 rfl, h_cell hb' 3 rfl⟩⟩⟩)
  have HB1 := Lib.hid (And.intro hB1 hm1)
  clear hob hm hB1 hm1
  go_enter Tryz.func6, Tryz.ntmps6
  go_wp2_with fail
  rw [← hw1]
  clear hw1
  refine hbe.mono ?_
  rintro e w2 ⟨pb, rfl, M0, t, rt, rm, fm, k, fb, th, fv, t0, t1, x1, x2, x3, hbs, hpb, hT0, hT1, hMt0, hMt1, hMpb, htne⟩
  clear hbe
  have hkf : Kf w1 w2.heap.size w2 t rt rm fm k fb th t0 pb fv x1 (ptr t1) x2 x3 nils 0 0 0 mE := by
    have c1 := h_lt hT0
    have c2 := h_lt hpb
    have c3 := hbs.m0
    have c4 := h_lt hbs.hK
    have c5 := hbs.hM.lt
    have c6 := hbs.tr.hT.lt
    have c7 := hbs.tr.hN.lt
    have c8 := hbs.tr.hM.lt
    have c9 := hbs.tr.hF.lt
    have d1 := hbs.fb1
    exact ⟨hbs.tr, hbs.hK, hbs.hF, hbs.hM, hT0, hpb, c6, c7, c8, c9, c4, by omega, c5, c1, c2, hbs.fk, hbs.ft, by omega, hbs.tf, hbs.tm, hbs.k0, hbs.th0, by omega, hbs.bl.size, Nat.le_refl _, hbs.bl⟩
  have hf3 := hbs.f3
  have hb3 : w1.heap.size ≤ t ∧ w1.heap.size ≤ fm ∧ w1.heap.size ≤ rm := ⟨hbs.tr.ht, hbs.tr.hfm, hbs.tr.hrm⟩
  have hpt : pb ≠ fm ∧ pb ≠ rm := by have := hbs.fm1; have := hbs.rm1; omega
  clear hbs hpb hT0 hT1 htne
  have pc0 := h_cell hkf.hp 0 rfl
  have pc2 := h_cell hkf.hp 2 rfl
  have pc0' := fun x => al_cell x pc0
  have hcv := Joins.run_convert_bytes_const_at (P := Tryz.prog) w2 33 5 #[.int .u8 97, .int .u8 98, .int .u8 99] 3 3 w2.heap.size rfl Tryz.underlying33 Tryz.underlying5
  obtain ⟨w3, hw3⟩ : ∃ w3, w3 = w2.alloc (.cells #[.int .u8 97, .int .u8 98, .int .u8 99] 5 (3, 4)) := ⟨_, rfl⟩
  have hU3 : Turn [] w2 w3 := by rw [hw3]; exact Turn.alloc w2 _
  have hso : w3.heap[w2.heap.size]? = some (.cells #[.int .u8 97, .int .u8 98, .int .u8 99] 5 (3, 4)) := by rw [hw3]; exact al_new _ _ rfl
  have hk3 := hkf.turn hU3 (by simp)
  have hsr := a_source hk3 w2.heap.size 0 3 3 [97, 98, 99] rfl (by decide) (by decide) (fun j hj => by
    have hj3 : j = 0 ∨ j = 1 ∨ j = 2 := by omega
    rcases hj3 with rfl | rfl | rfl
    · exact h_cell hso 0 rfl
    · exact h_cell hso 1 rfl
    · exact h_cell hso 2 rfl)
  clear hkf hk3 hso hU3
  go_wp2_with fail
  rw [← hw3]
  have hz3 : w3.heap.size = w2.heap.size + 1 := by rw [hw3]; simp
  clear hw3 hcv pc0 pc2 pc0'
  refine hsr.mono ?_
  rintro r w4 ⟨so, g, cap, rfl, hk4, hs4, hU4⟩
  have hz4 := hU4.size
  clear hsr hU4
  have hc := a_put0 hk4 hs4
  clear hk4 hs4
  go_wp2_with fail
  refine hc.mono ?_
  rintro r w5 ⟨rfl, hk5, hs5, hU5⟩
  have hz5 := hU5.size
  have hso5 := h_lt hs5.hS
  have hbk := hk5.bk
  have hbth := hk5.bth
  have hbt0 := hk5.bt0
  clear hc hU5
  have hc := a_read1 hk5 hs5 rfl
  clear hk5 hs5
  go_wp2_with fail
  refine hc.mono ?_
  rintro r w6 ⟨va, rfl, hk6, hs6, hka, hz6'⟩
  have hz6 : w5.heap.size ≤ w6.heap.size := hz6'
  clear hc
  have hc := a_read2 hk6 hs6 rfl
  clear hk6 hs6
  go_wp2_with fail
  refine hc.mono ?_
  rintro r w7 ⟨rfl, hk7, hs7, hU7⟩
  have hz7 := hU7.size
  have hka7 := hka.turn hU7 (by simp; omega)
  clear hc hka hU7
  have hc := a_read3 hk7 hs7 rfl
  clear hk7 hs7
  go_wp2_with fail
  refine hc.mono ?_
  rintro r w8 ⟨vb, c8, rest8, rfl, hk8, hkb8, hSo8, hU8⟩
  have hz8 := hU8.size
  have hka8 := hka7.turn hU8 (by simp; omega)
  clear hc hka7 hU8 hSo8
  have pc0 := h_cell hk8.hp 0 rfl
  have hc := a_pipe hk8
  clear hk8
  go_wp2_with fail
  refine hc.mono ?_
  rintro r w9 ⟨p, re, we, rfl, hk9, hp9, hp0, hr0, hw0, hU9⟩
  have hz9 := hU9.size
  have hka9 := hka8.turn hU9 (by simp; omega)
  have hkb9 := hkb8.turn hU9 (by simp; omega)
  clear hc hka8 hkb8 hU9 pc0
  have hc := a_put3 hk9 hp9
  clear hk9 hp9
  go_wp2_with fail
  refine hc.mono ?_
  rintro r w10 ⟨rfl, hk10, hp10, hU10⟩
  have hz10 := hU10.size
  have hka10 := hka9.turn hU10 (by simp; omega)
  have hkb10 := hkb9.turn hU10 (by simp; omega)
  clear hc hka9 hkb9 hU10
  have hc := a_put4 hk10 hp10
  clear hk10 hp10
  go_wp2_with fail
  refine hc.mono ?_
  rintro r w11 ⟨rfl, hk11, hp11, hU11⟩
  have hz11 := hU11.size
  have hka11 := hka10.turn hU11 (by simp; omega)
  have hkb11 := hkb10.turn hU11 (by simp; omega)
  clear hc hka10 hkb10 hU11
  have hc := a_again hk11 hp11
  go_wp2_with fail
  refine hc.mono ?_
  rintro r w12 ⟨rfl, rfl⟩
  clear hc
  have hcv := Joins.run_convert_bytes_const_at (P := Tryz.prog) w12 33 5 #[.int .u8 120] 1 1 w12.heap.size rfl Tryz.underlying33 Tryz.underlying5
  obtain ⟨w13, hw13⟩ : ∃ w13, w13 = w12.alloc (.cells #[.int .u8 120] 5 (1, 2)) := ⟨_, rfl⟩
  have hU13 : Turn [] w12 w13 := by rw [hw13]; exact Turn.alloc w12 _
  have hob13 : w13.heap[w12.heap.size]? = some (.cells #[.int .u8 120] 5 (1, 2)) := by rw [hw13]; exact al_new _ _ rfl
  have hka13 := hka11.turn hU13 (by simp)
  have hkb13 := hkb11.turn hU13 (by simp)
  have hz13 := hU13.size
  have hc := a_write (hk11.turn hU13 (by simp)) (hp11.turn hU13 (by simp)) w12.heap.size 0 (h_cell hob13 0 rfl)
  clear hk11 hp11 hka11 hkb11 hU13 hob13
  go_wp2_with fail
  rw [← hw13]
  clear hw13 hcv
  refine hc.mono ?_
  rintro r w14 ⟨v2, rfl, hk14, hp14, ho14, hU14⟩
  have hz14 := hU14.size
  have hka14 := hka13.turn hU14 (by simp; omega)
  have hkb14 := hkb13.turn hU14 (by simp; omega)
  clear hc hka13 hkb13 hU14
  have hc := a_take hk14 rfl hp14 (d := [120]) ho14 (by omega) (by decide) (fun h => absurd h (by decide))
  have hge14 : ∀ x, x ∈ v2.ownBlock.toList → w13.heap.size ≤ x := fun x hx => own_ge ho14 (by simpa using hx)
  have hlt14 : ∀ x, x ∈ v2.ownBlock.toList → x < w14.heap.size := fun x hx => own_lt ho14 (by simpa using hx)
  have hwe14 := h_lt hp14.hW
  have hpl14 := h_lt hp14.hP
  clear hk14 hp14 ho14
  go_wp2_with fail
  refine hc.mono ?_
  rintro r w15 ⟨vc, v3, rfl, hk15, hp15, ho15, hkc15, hbl15, hU15⟩
  have hz15 := hU15.size
  have hS15 : ∀ x, x ∈ p :: v2.ownBlock.toList → w8.heap.size ≤ x := fun x hx => by
    rcases List.mem_cons.1 hx with rfl | hx
    · exact hp0
    · have := hge14 x hx; omega
  have hka15 := hka14.turn hU15 (fun x hx => by have := hS15 x hx; omega)
  have hkb15 := hkb14.turn hU15 (fun x hx => by have := hS15 x hx; omega)
  clear hc hka14 hkb14 hU15 hge14 hS15
  have hre15 := h_lt hp15.hR
  have hwe15 := h_lt hp15.hW
  have hc := a_close hk15 hp15
  have hnw : v3.ownBlock ≠ some we := row_ne ho15 hp15.hW (by decide)
  clear hk15 hp15
  go_wp2_with fail
  refine hc.mono ?_
  rintro r w16 ⟨rfl, hk16, hp16, hU16⟩
  have hz16 := hU16.size
  have hka16 := hka15.turn hU16 (by simp; omega)
  have hkb16 := hkb15.turn hU16 (by simp; omega)
  have hkc16 := hkc15.turn hU16 (by simp; omega)
  have ho16 := own_turn ho15 hU16 (fun g' hg' e' => by
    have := own_ge ho15 hg'
    simp only [List.mem_cons, List.not_mem_nil, or_false] at e'
    rcases e' with e' | e'
    · omega
    · exact hnw (by rw [← e']; exact hg'))
  clear hc hka15 hkb15 hkc15 hU16 ho15 hnw
  have hc := a_take hk16 rfl hp16 (d := []) ho16 (by omega) (by decide) (fun _ => rfl)
  have hge16 : ∀ x, x ∈ v3.ownBlock.toList → w13.heap.size ≤ x := fun x hx => own_ge ho16 (by simpa using hx)
  clear hk16 hp16 ho16
  go_wp2_with fail
  refine hc.mono ?_
  rintro r w17 ⟨vd, v4, rfl, hk17, hp17, ho17, hkd17, _, hU17⟩
  have hz17 := hU17.size
  obtain ⟨ad, cd, rfl⟩ := own_slice2 hkd17.ho
  have hS17 : ∀ x, x ∈ p :: v3.ownBlock.toList → w8.heap.size ≤ x ∧ x < w14.heap.size := fun x hx => by
    rcases List.mem_cons.1 hx with rfl | hx
    · exact ⟨hp0, hpl14⟩
    · rw [hbl15] at hx
      have := hlt14 x hx
      rw [← hbl15] at hx
      have := hge16 x hx
      omega
  have hka17 := hka16.turn hU17 (fun x hx => by have := hS17 x hx; omega)
  have hkb17 := hkb16.turn hU17 (fun x hx => by have := hS17 x hx; omega)
  have hkc17 := hkc16.turn hU17 (fun x hx => by have := hS17 x hx; omega)
  clear hc hka16 hkb16 hkc16 hU17 hS17 hge16 hlt14 hbl15 hkd17 hp17 ho17
  have hm17 : w17.cell? ⟨0, 0, none⟩ = some (.int .i64 m) := (hk17.bl.cell (p := ⟨0, 0, none⟩) (show 0 < w1.heap.size by omega)).trans HB1.out.2
  have hc := a_open hk17 m hm17 hf3 hpt hb3
  have hbt := hk17.bt
  have hbfm := hk17.bfm
  have hbrm := hk17.brm
  clear hk17 hm17
  go_wp2_with fail
  refine hc.mono ?_
  rintro r w18 ⟨n, e, md, rfl, hop, hn0, he0, hU18⟩
  have hz18 := hU18.size
  have hka18 := hka17.turn hU18 (by simp; omega)
  have hkb18 := hkb17.turn hU18 (by simp; omega)
  have hkc18 := hkc17.turn hU18 (by simp; omega)
  clear hc hka17 hkb17 hkc17 hU18
  have hcv := Joins.run_convert_bytes_const_at (P := Tryz.prog) w18 33 5 #[.int .u8 104, .int .u8 105] 2 2 w18.heap.size rfl Tryz.underlying33 Tryz.underlying5
  obtain ⟨w19, hw19⟩ : ∃ w19, w19 = w18.alloc (.cells #[.int .u8 104, .int .u8 105] 5 (2, 3)) := ⟨_, rfl⟩
  have hU19 : Turn [] w18 w19 := by rw [hw19]; exact Turn.alloc w18 _
  have hob19 : w19.heap[w18.heap.size]? = some (.cells #[.int .u8 104, .int .u8 105] 5 (2, 3)) := by rw [hw19]; exact al_new _ _ rfl
  have hop19 : Op5 w1 w2.heap.size w19 t rt fm k fb th t0 pb n e so re fv x1 (ptr t1) x2 x3 md := by rw [hw19]; exact hop.al _
  have hnl18 := hop.hn.lt
  have hka19 := hka18.turn hU19 (by simp)
  have hkb19 := hkb18.turn hU19 (by simp)
  have hkc19 := hkc18.turn hU19 (by simp)
  have hz19 := hU19.size
  have hc := a_writef hop19 w18.heap.size 0 (by omega) (fun j hj => by
    have hj2 : j = 0 ∨ j = 1 := by omega
    rcases hj2 with rfl | rfl
    · exact h_cell hob19 0 rfl
    · exact h_cell hob19 1 rfl)
  clear hop hop19 hka18 hkb18 hkc18 hU19 hob19
  go_wp2_with fail
  rw [← hw19]
  clear hw19 hcv
  refine hc.mono ?_
  rintro r w20 ⟨rfl, hK20, hT20, hp20, hbl20, hU20⟩
  have hka20 := hka19.turn hU20 (by simp; omega)
  have hkb20 := hkb19.turn hU20 (by simp; omega)
  have hkc20 := hkc19.turn hU20 (by simp; omega)
  have cva := conv_k hka20
  have cvb := conv_k hkb20
  have cvc := conv_k hkc20
  have k2 := h_cell hK20 2 rfl
  have k3 := h_cell hK20 3 rfl
  have pc0 := h_cell hp20 0 rfl
  have hfd := fds_c t0 k so e re w20 hT20
  have HE := Lib.hid (And.intro hbl20 HB1.out.1)
  clear hc hka19 hkb19 hkc19 hka20 hkb20 hkc20 hU20 hK20 hT20 hp20 hbl20 HB1
  go_wp2_with (first
    | (go_at_call 20; go_in)
    | (go_at_call 21; go_in)
    | (go_at_call 22; refine hfd.mono ?_; rintro r w21 ⟨⟨a21, c21, rfl⟩, hB21⟩))
  go_ret
  obtain ⟨hb1, hb2⟩ := HE.out
  exact ⟨rfl, (hb2.trans (hb1.mono (by omega))).trans (hB21.mono (Nat.le_trans (by omega) hb1.size))⟩
end Go.Proofs.YtbbmihlabllliaaGreatDoor
