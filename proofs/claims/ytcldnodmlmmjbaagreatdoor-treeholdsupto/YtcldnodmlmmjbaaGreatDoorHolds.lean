/- TreeHolds, walked. -/
import Derived.Lib.ConvBytes
import Derived.Lib.SmallJoins
import Derived.Laws.BytesArg
import Derived.Laws.IdiomStrings
import Derived.Test.YtcldnodmlmmjbaaGreatDoorSmall
import Derived.Test.YtcldnodmlmmjbaaGreatDoorFile
import Derived.Test.YtcldnodmlmmjbaaGreatDoorRemove
import Derived.Test.YtcldnodmlmmjbaaGreatDoorDump
namespace Go.Proofs.YtcldnodmlmmjbaaGreatDoor
open Go.RowKit Go.Shelf Go.Maps

theorem conv_own {W : World} {base n : Nat} {v : Value} {l : List UInt8} (h : W.ownsRow base 5 1 v n (u8s l)) (hn : l.length = n) : (convert 33 9 v).run Tryz.prog W = .ok (.string ⟨l.toArray⟩) W := by
  subst hn
  rcases h.2 with ⟨rfl, h0⟩ | ⟨g, cap, cur, rfl, _, hg, _, _, hcs, htk⟩
  · obtain rfl := List.eq_nil_of_length_eq_zero h0
    exact run_convert_bytes_nil W 33 5 Tryz.underlying33 Tryz.underlying5 0 0 9 Tryz.underlying9
  · refine run_convert_bytes_back (P := Tryz.prog) _ 33 9 5 ⟨g, 0, none⟩ cap l Tryz.underlying33 Tryz.underlying5 Tryz.underlying9 (fun j hj => ?_)
    have e : (u8s l)[j]? = some (.int .u8 (l[j].toNat : Int)) := by simp [u8s, hj]
    rw [← htk, List.getElem?_take, if_pos (by omega)] at e
    rw [Addr.add_lit]
    simp only [World.cell?, hg]
    simpa using e
theorem conv_src {B : Nat} {W : World} {v : Value} {l : List UInt8} (h : Src B W v l) : (convert 33 9 v).run Tryz.prog W = .ok (.string ⟨l.toArray⟩) W := by
  obtain ⟨a, cap, rfl, _, h0 | ⟨b, o, rfl, _, hc⟩⟩ := h
  · obtain rfl := List.eq_nil_of_length_eq_zero h0
    cases a with
    | none => exact run_convert_bytes_nil W 33 5 Tryz.underlying33 Tryz.underlying5 0 cap 9 Tryz.underlying9
    | some a => exact run_convert_bytes_back (P := Tryz.prog) _ 33 9 5 a cap [] Tryz.underlying33 Tryz.underlying5 Tryz.underlying9 (fun j hj => by simp at hj)
  · refine run_convert_bytes_back (P := Tryz.prog) _ 33 9 5 ⟨b, o, none⟩ cap l Tryz.underlying33 Tryz.underlying5 Tryz.underlying9 (fun j hj => ?_)
    rw [Addr.add_lit, hc j hj]
    simp [hj]
theorem Src.mono {B B' : Nat} {w : World} {v : Value} {l : List UInt8} (h : Src B w v l) (hb : B ≤ B') : Src B' w v l := by
  obtain ⟨a, cap, hv, hc, h0 | ⟨b, o, ha, hB, hcell⟩⟩ := h
  · exact ⟨a, cap, hv, hc, .inl h0⟩
  · exact ⟨a, cap, hv, hc, .inr ⟨b, o, ha, by omega, hcell⟩⟩

theorem map_below {w w' : World} {B k b n : Nat} {D : DataW Value} (h : w.ownsMap Tryz.prog k R b n D) (hb : Below B w w') (hB : b < B) : w'.ownsMap Tryz.prog k R b n D := by
  obtain ⟨es, c, e, rest⟩ := h
  exact ⟨es, c, (hb.block b hB).trans e, rest⟩

/-- The tree's own parts, all below B. -/
structure St (B : Nat) (w : World) (t rt rm fm N NF : Nat) (D F : DataW Value) (nm la : Int) : Prop where
  hT : TrAt w t (ptr rt) (.map (some fm)) (.int .i64 nm) (.int .i64 la)
  hr : NdAt w rt (xr rt rm)
  hM : w.ownsMap Tryz.prog 9 R rm N D
  hF : w.ownsMap Tryz.prog 3 R fm NF F
theorem St.below {B : Nat} {w w' : World} {t rt rm fm N NF : Nat} {D F : DataW Value} {nm la : Int} (h : St B w t rt rm fm N NF D F nm la) (hb : Below B w w') (h1 : t < B) (h2 : rt < B) (h3 : rm < B) (h4 : fm < B) : St B w' t rt rm fm N NF D F nm la :=
  ⟨h.hT.below hb h1, h.hr.below hb h2, map_below h.hM hb h3, map_below h.hF hb h4⟩

/-- What is asked of the examples. -/
def AwakeSays : Prop := ∀ (m : Int) (w : World), w.cell? ⟨0, 0, none⟩ = some (.int .i64 m) → Calls Tryz.prog 7 #[] w fun e w' => e = .returned (.bool true) ∧ Below w.heap.size w w'

theorem Turn.toBelow {S : List Nat} {w w' : World} {B : Nat} (h : Turn S w w') (hB : B ≤ w.heap.size) (hS : ∀ k, k ∈ S → B ≤ k) : Below B w w' :=
  ⟨h.os, h.tape, h.output, h.size, fun k hk => h.block k (by omega) (fun e => by have := hS k e; omega)⟩

theorem wf2 : (Lit.int .i64 2).wf = true := by decide

/-- The file's one name goes; it is held. -/
theorem holds_remove (B t d rm fm N NF n : Nat) (F : DataW Value) (P : ByteArray) (hPs : P.size ≤ 2147483648) (la holds : Int) (bs : List UInt8) (m : Int) (w : World) (hm : w.cell? ⟨0, 0, none⟩ = some (.int .i64 m))
    (st : St B w t d rm fm N NF (mE.put (sk (lastS P)) (.held (ptr n))) F 1 la) (h1 : t < B) (h2 : d < B) (h3 : rm < B) (hf : FileAt B w n 2 1 holds bs) (hh : holds ≠ 0)
    (he : seekF (g0 d rm) d d P 2 = .ok ⟨d, lastS P, .pointer none, false⟩) :
    Calls Tryz.prog 25 #[.pointer (some ⟨t, 0, none⟩), .string ⟨#[]⟩, .string P, .bool false] w fun r w' => r = .returned (.int .i64 0) ∧ FileAt B w' n 2 0 holds bs ∧ w'.ownsMap Tryz.prog 9 R rm N mE ∧ TrAt w' t (ptr d) (.map (some fm)) (.int .i64 0) (.int .i64 la) ∧ Turn [rm, t, n] w w' := by
  obtain ⟨hBn, md, tk, a, cap, hn, ho⟩ := hf
  have hdn : d ≠ n := by omega
  have hr0 : (g0 d rm d).isSome = true := by rw [g0_rt]; rfl
  obtain ⟨i1, i2, i3, i4⟩ := seekF_inv (closed0 d rm) hr0 hr0 he
  have hend : isEnd P = false := by
    obtain ⟨x, D, hg, _, _, _, h5, _⟩ := seekF_ok (closed0 d rm) hr0 hr0 he
    exact h5.symm
  rw [ite_self] at i2
  obtain ⟨_, hto⟩ := toDir_root d rm i2
  obtain ⟨xf, hxf⟩ : ∃ xf : Nd, xf = ⟨2, md, tk, false, .pointer none, .map none, .slice a bs.length cap, 1, holds⟩ := ⟨_, rfl⟩
  have hfd : xf.dir = false := by rw [hxf]
  have hcl := closed1 d rm (nme := lastS P) hdn hfd
  have hg1 := g1_rt d rm (n := n) (xf := xf) (nme := lastS P)
  have hr1 : (g1 d rm n xf (lastS P) d).isSome = true := by rw [hg1]; rfl
  have hsk : seekF (g1 d rm n xf (lastS P)) d d P 15 = .ok ⟨d, lastS P, ptr n, false⟩ := by
    rw [seekF_mk (non := 15) i1 (by rw [ite_self]; exact hto _ _ hg1) i3 i4 hg1, lookPut isMap_E, if_pos rfl, hend]
  have hls := lastS_size P
  rw [← hxf] at hn
  have hA : Amb (g1 d rm n xf (lastS P)) m w := ⟨hm, gr1 d rm hdn hfd st.hr st.hM hn⟩
  refine (remove_file (g1 d rm n xf (lastS P)) hcl t d d d n rm N (lastS P) 1 _ _ (xr d rm) xf _ ⟨#[]⟩ P m w (by decide) hPs hA st.hT hr1 hr1 (toDir_empty hg1 rfl pts_E) hsk (by omega) st.hr rfl st.hM hn hfd (by rw [hxf]; show (1 : Int) ≤ 1; decide) (by rw [hxf]; show (1 : Int) < _; decide) (by decide) (by decide) (.inr ⟨by rw [hxf]; rfl, by rw [hxf]; exact hh⟩)).mono ?_
  rintro r w' ⟨rfl, hM', hn', hT', hU'⟩
  rw [put_del _ _ (same_s _)] at hM'
  refine ⟨rfl, ⟨hBn, md, tk, a, cap, by rw [hxf] at hn'; exact hn', own_turn ho hU' (fun g hg e => ?_)⟩, hM', hT', hU'⟩
  have hgB := own_ge ho hg
  have hgn : g ≠ n := fun e => row_ne ho (show w.heap[n]? = some (.cells xf.arr 82 (0, 0)) from hn) (by decide) (e ▸ hg)
  simp at e
  omega

/-- What is fixed: where the parts of the tree lie. -/
structure Fix (w : World) (B t d rm fm n : Nat) (P : ByteArray) (m : Int) : Prop where
  t1 : t < B
  d1 : d < B
  r1 : rm < B
  f1 : fm < B
  t0 : w.heap.size ≤ t
  d0 : w.heap.size ≤ d
  r0 : w.heap.size ≤ rm
  f0 : w.heap.size ≤ fm
  B0 : w.heap.size ≤ B
  n0 : B ≤ n
  rf : rm ≠ fm
  dt : d ≠ t
  dr : rm ≠ d
  df : fm ≠ d
  tr : rm ≠ t
  tf : fm ≠ t
  Ps : P.size ≤ 2147483648
  hm : w.cell? ⟨0, 0, none⟩ = some (.int .i64 m)
  he : seekF (g0 d rm) d d P 2 = .ok ⟨d, lastS P, .pointer none, false⟩
/-- How it stands between two calls. -/
structure Kk (w : World) (B t d rm fm n : Nat) (P : ByteArray) (m : Int) (D : DataW Value) (nm links holds : Int) (bs : List UInt8) (wk : World) : Prop where
  fx : Fix w B t d rm fm n P m
  st : St B wk t d rm fm 1 1 D (mE.put (ik 2) (.held (ptr n))) nm 2
  fl : FileAt B wk n 2 links holds bs
  bl : Below w.heap.size w wk
  sz : B ≤ wk.heap.size
theorem look2 (n : Nat) : look (mE.put (ik 2) (.held (ptr n))) (ik 2) = ptr n := look_put_same isMap_E (isKey_i 2) _
section
variable {w : World} {B t d rm fm n : Nat} {P : ByteArray} {m : Int} {D : DataW Value} {nm links holds : Int} {bs : List UInt8} {wk : World}
theorem k_write (h : Kk w B t d rm fm n P m D nm links holds bs wk) (now : Int) (a : Option Addr) (c : Nat) (cs : List UInt8) (hv : Src w.heap.size w (.slice a cs.length c) cs) (h1 : bs.length ≤ 1048576) (h2 : cs.length ≤ 1048576) :
    Calls Tryz.prog 23 #[.pointer (some ⟨t, 0, none⟩), .int .i64 2, .int .i64 bs.length, .slice a cs.length c, .int .i64 now] wk fun e w' => (∃ v, e = .returned v) ∧ Kk w B t d rm fm n P m D nm links holds (bs ++ cs) w' := by
  refine (write_file t n fm 1 _ 2 now links holds B _ bs cs _ _ _ wk h.sz h.st.hT h.st.hF wf2 (look2 n) h.fl ((hv.below h.bl).mono h.fx.B0) (by omega) (by omega)).mono ?_
  rintro e w' ⟨hv, hf, hB⟩
  exact ⟨hv, h.fx, h.st.below hB h.fx.t1 h.fx.d1 h.fx.r1 h.fx.f1, hf, h.bl.trans (hB.mono h.fx.B0), Nat.le_trans h.sz hB.size⟩
theorem k_hold (h : Kk w B t d rm fm n P m D nm links holds bs wk) (h0 : 0 ≤ holds) (h1 : holds < 1000) :
    Calls Tryz.prog 24 #[.pointer (some ⟨t, 0, none⟩), .int .i64 2] wk fun e w' => (∃ v, e = .returned v) ∧ Kk w B t d rm fm n P m D nm links (holds + 1) bs w' := by
  refine (hold_file t n fm 1 _ 2 links holds B bs _ _ _ wk h.sz h.st.hT h.st.hF wf2 (look2 n) h.fl h0 h1).mono ?_
  rintro e w' ⟨hv, hf, hB⟩
  exact ⟨hv, h.fx, h.st.below hB h.fx.t1 h.fx.d1 h.fx.r1 h.fx.f1, hf, h.bl.trans (hB.mono h.fx.B0), Nat.le_trans h.sz hB.size⟩
theorem k_drop (h : Kk w B t d rm fm n P m D nm links holds bs wk) (h0 : 2 ≤ holds) (h1 : holds < 1000) :
    Calls Tryz.prog 27 #[.pointer (some ⟨t, 0, none⟩), .int .i64 2] wk fun e w' => (∃ v, e = .returned v) ∧ Kk w B t d rm fm n P m D nm links (holds - 1) bs w' ∧ Turn [n] wk w' := by
  refine (drop_file t n fm 1 _ 2 links holds B bs _ _ _ wk h.sz h.st.hT h.st.hF wf2 (look2 n) h.fl h0 h1).mono ?_
  rintro e w' ⟨hv, hf, hB, hU⟩
  exact ⟨hv, ⟨h.fx, h.st.below hB h.fx.t1 h.fx.d1 h.fx.r1 h.fx.f1, hf, h.bl.trans (hB.mono h.fx.B0), Nat.le_trans h.sz hB.size⟩, hU⟩
theorem k_remove (h : Kk w B t d rm fm n P m (mE.put (sk (lastS P)) (.held (ptr n))) 1 1 holds bs wk) (hh : holds ≠ 0) (h0 : 0 < w.heap.size) :
    Calls Tryz.prog 25 #[.pointer (some ⟨t, 0, none⟩), .string ⟨#[]⟩, .string P, .bool false] wk fun e w' => e = .returned (.int .i64 0) ∧ Kk w B t d rm fm n P m mE 0 0 holds bs w' := by
  obtain ⟨t1, d1, r1, f1, t0, d0, r0, f0, B0, n0, rf, dt, dr, df, tr, tf, Ps, hm, he⟩ := h.fx
  have hB0 := h.fx.B0
  refine (holds_remove B t d rm fm 1 1 n _ P Ps 2 holds bs m wk ((h.bl.cell (p := ⟨0, 0, none⟩) h0).trans hm) h.st t1 d1 r1 h.fl hh he).mono ?_
  rintro e w' ⟨rfl, hf, hM, hT, hU⟩
  have hsz := h.sz
  exact ⟨rfl, h.fx, ⟨hT, hU.nd h.st.hr (by simp; omega), hM, hU.map h.st.hF (by simp; omega)⟩, hf, h.bl.trans (hU.toBelow (by omega) (by simp; omega)), Nat.le_trans h.sz hU.size⟩
theorem k_read (h : Kk w B t d rm fm n P m D nm links holds bs wk) (most : Nat) (hL : bs.length ≤ 33554432) (hm : bs.length ≤ most) (hm0 : 0 < most) (hm2 : most ≤ 4611686018427387904) :
    Calls Tryz.prog 26 #[.pointer (some ⟨t, 0, none⟩), .int .i64 2, .int .i64 0, .int .i64 most] wk fun e w' => ∃ v', e = .returned v' ∧ Kk w B t d rm fm n P m D nm links holds bs w' ∧ ∃ C, n < C ∧ C ≤ w'.heap.size ∧ w'.ownsRow C 5 1 v' bs.length (u8s bs) ∧ B ≤ C := by
  have hnl : n < wk.heap.size := by obtain ⟨_, md, tk, a, cap, hn, _⟩ := h.fl; exact hn.lt
  refine (read_file t n fm 1 _ 2 links holds B 0 most bs _ _ _ wk h.st.hT h.st.hF wf2 (look2 n) h.fl hL (by omega) (by omega) hm0 hm2).mono ?_
  rintro e w' ⟨v', rfl, ho, hB⟩
  have hsz := h.sz
  have hB' : Below B wk w' := hB.mono h.sz
  refine ⟨v', rfl, ⟨h.fx, h.st.below hB' h.fx.t1 h.fx.d1 h.fx.r1 h.fx.f1, h.fl.turn (S := []) (Turn.below hB) (by simp), h.bl.trans (hB'.mono h.fx.B0), Nat.le_trans h.sz hB.size⟩, wk.heap.size, hnl, hB.size, by simpa using ho, h.sz⟩
theorem k_files (h : Kk w B t d rm fm n P m D nm links holds bs wk) : Calls Tryz.prog 14 #[.pointer (some ⟨t, 0, none⟩)] wk fun e w' => e = .returned (.int .i64 1) ∧ w' = wk := by
  refine (files_c t fm 1 _ _ _ _ wk h.st.hT h.st.hF).mono ?_
  rintro e w' ⟨rfl, rfl⟩
  exact ⟨rfl, rfl⟩
theorem k_size (h : Kk w B t d rm fm n P m D nm links holds bs wk) : Calls Tryz.prog 28 #[.pointer (some ⟨t, 0, none⟩), .int .i64 2] wk fun e w' => e = .returned (.int .i64 bs.length) ∧ w' = wk :=
  size_file t n fm 1 _ 2 links holds B bs _ _ _ wk h.st.hT h.st.hF wf2 (look2 n) h.fl
/-- When nobody holds it any more. -/
structure Ee (w : World) (B t d rm fm n : Nat) (P : ByteArray) (m : Int) (wk : World) : Prop where
  fx : Fix w B t d rm fm n P m
  hT : TrAt wk t (ptr d) (.map (some fm)) (.int .i64 0) (.int .i64 2)
  hr : NdAt wk d (xr d rm)
  hM : wk.ownsMap Tryz.prog 9 R rm 1 mE
  hF : wk.ownsMap Tryz.prog 3 R fm 1 mE
  bl : Below w.heap.size w wk
theorem same_i (i : Int) : (ik i).sameKey (ik i) = true := by simp [Lit.sameKey]
theorem k_gone (h : Kk w B t d rm fm n P m mE 0 0 1 bs wk) {v' : Value} {C L : Nat} {xs : List Value} (ho : wk.ownsRow C 5 1 v' L xs) (hC : n < C) (_hBC : B ≤ C) :
    Calls Tryz.prog 27 #[.pointer (some ⟨t, 0, none⟩), .int .i64 2] wk fun e w' => (∃ v, e = .returned v) ∧ Ee w B t d rm fm n P m w' ∧ w'.ownsRow C 5 1 v' L xs := by
  obtain ⟨t1, d1, r1, f1, t0, d0, r0, f0, B0, n0, rf, dt, dr, df, tr, tf, Ps, hm, he⟩ := h.fx
  have hsz := h.sz
  refine (gone_file t n fm 1 _ 2 B bs _ _ _ wk h.sz h.st.hT h.st.hF wf2 (look2 n) h.fl).mono ?_
  rintro e w' ⟨hv, hF, hU⟩
  rw [put_del _ _ (same_i 2)] at hF
  exact ⟨hv, ⟨h.fx, hU.tr h.st.hT (by simp; omega), hU.nd h.st.hr (by simp; omega), hU.map h.st.hM (by simp; omega), hF, h.bl.trans (hU.toBelow (by omega) (by simp; omega))⟩, own_turn ho hU (fun g hg e => by have := own_ge ho hg; simp at e; omega)⟩
theorem e_files (h : Ee w B t d rm fm n P m wk) : Calls Tryz.prog 14 #[.pointer (some ⟨t, 0, none⟩)] wk fun e w' => e = .returned (.int .i64 0) ∧ w' = wk := by
  refine (files_c t fm 1 _ _ _ _ wk h.hT h.hF).mono ?_
  rintro e w' ⟨rfl, rfl⟩
  exact ⟨rfl, rfl⟩
theorem e_size (h : Ee w B t d rm fm n P m wk) : Calls Tryz.prog 28 #[.pointer (some ⟨t, 0, none⟩), .int .i64 2] wk fun e w' => e = .returned (.int .i64 0) ∧ w' = wk :=
  size_none t fm 1 _ 2 _ _ _ wk h.hT h.hF wf2 (look_empty _)
theorem e_dump (h : Ee w B t d rm fm n P m wk) : Calls Tryz.prog 12 #[.pointer (some ⟨t, 0, none⟩)] wk fun e w' => e = .returned (.slice none 0 0) ∧ Below w.heap.size w w' := by
  refine (dump_none t d rm 1 _ _ _ _ wk h.hT h.hr rfl h.hM).mono ?_
  rintro e w' ⟨rfl, hB⟩
  exact ⟨rfl, h.bl.trans (hB.mono h.bl.size)⟩
end

set_option maxRecDepth 100000 in
set_option maxHeartbeats 8000000 in
theorem holds_walk (hup : AwakeSays) (name : ByteArray) (hns : name.size ≤ 1048576) (v1 v2 : Value) (bs cs : List UInt8) (hb1 : bs.length ≤ 1048576) (hb2 : cs.length ≤ 1048576) (m : Int) (w : World) (hm : w.cell? ⟨0, 0, none⟩ = some (.int .i64 m)) (hv1 : Src w.heap.size w v1 bs) (hv2 : Src w.heap.size w v2 cs) :
    Calls Tryz.prog 6 #[.string name, v1, v2] w fun e w' => e = .returned (.bool true) ∧ Below w.heap.size w w' := by
  have hup' := hup m w hm
  have HS1 := Lib.hid hv1
  have HS2 := Lib.hid hv2
  obtain ⟨a1, c1, rfl, _⟩ := hv1
  obtain ⟨a2, c2, rfl, _⟩ := hv2
  have h0lt : 0 < w.heap.size := World.block_lt_of_cell? w _ hm
  go_enter Tryz.func6, Tryz.ntmps6
  go_wp2_with (first
    | (go_at_call 7; refine hup'.mono ?_; rintro e w1 ⟨rfl, hB1⟩)
    | (go_at_call 21; refine (new_c _).mono ?_; rintro e w2 ⟨t, rt, rm, fm, rfl, ht, hrt, hrm, hfm, hmf, hN2, hM2, hF2, hT2, hB2⟩))
  have hz1 := hB1.size
  have hB20 : Below w.heap.size w w2 := hB1.trans (hB2.mono hz1)
  have hm2 : w2.cell? ⟨0, 0, none⟩ = some (.int .i64 m) := (hB20.cell (p := ⟨0, 0, none⟩) h0lt).trans hm
  have htl := hT2.lt
  have hrl := hN2.lt
  have hml := hM2.lt
  have hfl := hF2.lt
  have hA2 : Amb (g0 rt rm) m w2 := ⟨hm2, gr0 rt rm hN2 hM2⟩
  have hr0 : (g0 rt rm rt).isSome = true := by rw [g0_rt]; rfl
  have hhome : toDir (g0 rt rm) rt ⟨#[]⟩ = .ok rt := toDir_empty (g0_rt rt rm) rfl pts_E
  obtain ⟨P, hP⟩ : ∃ P, (⟨#[47]⟩ ++ name : ByteArray) = P := ⟨_, rfl⟩
  have hPs : P.size ≤ 2147483648 := by rw [← hP]; simp only [ByteArray.size_append]; have : (⟨#[47]⟩ : ByteArray).size = 1 := rfl; omega
  rw [hP]
  rcases seekF_cases (g := g0 rt rm) (root := rt) (home := rt) (s := P) (non := 2) (closed0 rt rm) hr0 hr0 with ⟨e, hne, he⟩ | ⟨d, x, D, hgd, hdir, hnm, he⟩
  · have hne : e ≠ 0 := by rcases hne with h | h; · rw [h]; decide
                           · exact h
    refine (make_err (g0 rt rm) (closed0 rt rm) t rt rt _ _ _ ⟨#[]⟩ P false 420 3 m e w2 (by decide) hPs hA2 hT2 hr0 hr0 hhome hne (fun w3 hB3 => vacant_err (g0 rt rm) (closed0 rt rm) t rt rt _ _ _ P false m e w3 hPs (hA2.below hB3) (hT2.below hB3 hT2.lt) hr0 hr0 he)).mono ?_
    rintro r w3 ⟨rfl, hB3⟩
    have hne' : (e == 0) = false := by simpa using hne
    clear hA2 hN2 hM2 hF2 hT2
    go_wp2_with fail
    go_ret
    exact ⟨rfl, hB20.trans (hB3.mono hB20.size)⟩
  · obtain ⟨rfl, rfl, rfl⟩ := g0_inv rt rm hgd
    rw [look_empty] at he
    cases hend : isEnd P with
    | true =>
      rw [hend] at he
      refine (make_err (g0 d rm) (closed0 d rm) t d d _ _ _ ⟨#[]⟩ P false 420 3 m 3 w2 (by decide) hPs hA2 hT2 hr0 hr0 hhome (by decide) (fun w3 hB3 => vacant_slash (g0 d rm) (closed0 d rm) t d d d _ _ _ _ P m w3 hPs (hA2.below hB3) (hT2.below hB3 hT2.lt) hr0 hr0 he)).mono ?_
      rintro r w3 ⟨rfl, hB3⟩
      clear hA2 hN2 hM2 hF2 hT2
      go_wp2_with fail
      go_ret
      exact ⟨rfl, hB20.trans (hB3.mono hB20.size)⟩
    | false =>
      rw [hend] at he
      have hls := lastS_size P
      refine (make_file (g0 d rm) (closed0 d rm) t d d d 0 rm 0 fm 0 (lastS P) false 0 1 (xr d rm) mE mE ⟨#[]⟩ P 420 3 m w2 (by decide) hPs hA2 hT2 hr0 hr0 hhome ⟨he, ⟨_, hN2, rfl⟩, by omega, by omega, by omega, by omega, hgd, hN2, rfl, hM2, by omega⟩ rfl hF2 (by omega) hmf (by omega) (by omega)).mono ?_
      rintro r w3 ⟨n, md, rfl, hn, hN3, hM3, hF3, hT3, hU3⟩
      have hdt := nd_ne_tr hN2 hT2
      have hrd := nd_ne_map hN2 hM2
      have hfd := nd_ne_map hN2 hF2
      have hrt := tr_ne_map hT2 hM2
      have hft := tr_ne_map hT2 hF2
      have hzB : w.heap.size ≤ w2.heap.size := hB20.size
      have k3 : Kk w w2.heap.size t d rm fm n P m (mE.put (sk (lastS P)) (.held (ptr n))) 1 1 0 [] w3 :=
        ⟨⟨htl, hrl, hml, hfl, by omega, by omega, by omega, by omega, hzB, hn, hmf, hdt, hrd, hfd, hrt, hft, hPs, hm, he⟩, ⟨hT3, hU3.nd hN2 (by simp; omega), hM3, hF3⟩, ⟨hn, md, 3, none, 0, hN3, World.ownsRow_nil _ _ _ _⟩, hB20.trans (hU3.toBelow (by omega) (by simp; omega)), hU3.size⟩
      clear hA2 hN2 hM2 hF2 hT2 hN3 hM3 hF3 hT3 hU3 hup' hgd he hdt hrd hfd hrt hft hmf htl hrl hml hfl hn hm2 hr0 hhome hB1 hB2 hB20 hls hnm hdir hrm hfm hz1
      rw [show (1 : Int) + 1 = 2 from rfl]
      go_wp2_with fail
      refine (k_write k3 4 a1 c1 bs HS1.out (by simp) hb1).mono ?_
      rintro e w4 ⟨⟨u4, rfl⟩, k4⟩
      rw [List.nil_append] at k4
      clear k3
      go_wp2_with fail
      refine (k_hold k4 (by decide) (by decide)).mono ?_
      rintro e w5 ⟨⟨u5, rfl⟩, k5⟩
      clear k4
      go_wp2_with fail
      refine (k_hold k5 (by decide) (by decide)).mono ?_
      rintro e w6 ⟨⟨u6, rfl⟩, k6⟩
      clear k5
      go_wp2_with fail
      refine (k_remove k6 (by decide) h0lt).mono ?_
      rintro e w7 ⟨rfl, k7⟩
      clear k6
      go_wp2_with fail
      refine (k_write k7 5 a2 c2 cs HS2.out hb1 hb2).mono ?_
      rintro e w8 ⟨⟨u8, rfl⟩, k8⟩
      clear k7
      go_wp2_with fail
      have hlen : (bs ++ cs).length = bs.length + cs.length := List.length_append
      have hrd := k_read k8 (bs.length + cs.length + 9) (by omega) (by omega) (by omega) (by omega)
      rw [show ((bs.length + cs.length + 9 : Nat) : Int) = (bs.length : Int) + (cs.length : Int) + 9 by omega] at hrd
      refine hrd.mono ?_
      clear hrd
      rintro e w9 ⟨vx, rfl, k9, C, hC1, hC2, hox, hBC⟩
      clear k8
      go_wp2_with fail
      refine (k_drop k9 (by decide) (by decide)).mono ?_
      rintro e w10 ⟨⟨u10, rfl⟩, k10, hU10⟩
      have hox10 := own_turn hox hU10 (fun g hg e => by have := own_ge hox hg; simp at e; omega)
      rw [show (0 : Int) + 1 + 1 - 1 = 1 from rfl] at k10
      clear k9 hox hU10
      go_wp2_with fail
      refine (k_files k10).mono ?_
      rintro e w' ⟨rfl, rfl⟩
      go_wp2_with fail
      refine (k_size k10).mono ?_
      rintro e w'' ⟨rfl, rfl⟩
      go_wp2_with fail
      refine (k_gone k10 hox10 hC1 hBC).mono ?_
      rintro e w11 ⟨⟨u11, rfl⟩, e11, hox11⟩
      clear k10 hox10
      have hcx := conv_own (l := bs ++ cs) hox11 rfl
      have hc1 := conv_src (HS1.out.below e11.bl)
      have hc2 := conv_src (HS2.out.below e11.bl)
      have hse : (⟨(bs ++ cs).toArray⟩ : ByteArray) = ⟨bs.toArray⟩ ++ ⟨cs.toArray⟩ := by
        apply ByteArray.ext
        simp
      rw [hse] at hcx
      go_wp2_with (first
        | (go_at_call 14; refine (e_files e11).mono ?_; rintro e w' ⟨rfl, hw⟩; rw [hw])
        | (go_at_call 28; refine (e_size e11).mono ?_; rintro e w' ⟨rfl, hw⟩; rw [hw])
        | (go_at_call 12; refine (e_dump e11).mono ?_; rintro e w12 ⟨rfl, hB12⟩))
      go_ret
      exact ⟨rfl, hB12⟩
end Go.Proofs.YtcldnodmlmmjbaaGreatDoor
