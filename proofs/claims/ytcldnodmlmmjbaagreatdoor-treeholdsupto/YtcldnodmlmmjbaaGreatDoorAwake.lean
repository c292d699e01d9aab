/- The steps of the chapter's examples. -/
import Derived.Test.YtcldnodmlmmjbaaGreatDoorTrio
import Derived.Test.YtcldnodmlmmjbaaGreatDoorStat
namespace Go.Proofs.YtcldnodmlmmjbaaGreatDoor
open Go.RowKit Go.Shelf Go.Maps

/-- How it stands between two calls of the examples. -/
structure Aw (w : World) (t rt rm fm na am nb Nr Na : Nat) (Dr Da : DataW Value) (md1 md2 tk links nm : Int) (v : Value) (base : Nat) (m : Int) (wk : World) : Prop where
  hm : w.cell? ⟨0, 0, none⟩ = some (.int .i64 m)
  z0 : 0 < w.heap.size
  t0 : w.heap.size ≤ t
  r0 : w.heap.size ≤ rm
  f0 : w.heap.size ≤ fm
  a0 : w.heap.size ≤ am
  b0 : w.heap.size ≤ nb
  ra : rt ≠ na
  rb : rt ≠ nb
  ab : na ≠ nb
  rf : rm ≠ fm
  rmam : rm ≠ am
  fmam : fm ≠ am
  nr : Nr < 1000
  n_a : Na < 1000
  hT : TrAt wk t (ptr rt) (.map (some fm)) (.int .i64 nm) (.int .i64 3)
  hr : NdAt wk rt (xr rt rm)
  hM : wk.ownsMap Tryz.prog 9 R rm Nr Dr
  ha : NdAt wk na (xa rt am md1)
  hMa : wk.ownsMap Tryz.prog 9 R am Na Da
  hb : NdAt wk nb (xb md2 tk v links)
  hF : wk.ownsMap Tryz.prog 3 R fm 1 (mE.put (ik 3) (.held (ptr nb)))
  hrow : wk.ownsRow base 5 1 v 2 (u8s [120, 121])
  bl : Below w.heap.size w wk
  cr : ∀ s : ByteArray, look Dr (sk s) = .pointer none ∨ look Dr (sk s) = ptr na ∨ look Dr (sk s) = ptr nb
  ca : ∀ s : ByteArray, look Da (sk s) = .pointer none ∨ look Da (sk s) = ptr nb

/-- A told state's block stays. -/
def Ks (wk w' : World) : Prop := ∀ q x0 x1 x2 x3 x4 x5, StAt wk q x0 x1 x2 x3 x4 x5 → StAt w' q x0 x1 x2 x3 x4 x5
theorem Ks.below {wk w' : World} (h : Below wk.heap.size wk w') : Ks wk w' := fun q _ _ _ _ _ _ hs => (h.block q (Array.getElem?_eq_some_iff.1 (show wk.heap[q]? = _ from hs)).1).trans hs
theorem Ks.turn {wk w' : World} {mb t nb k N : Nat} {D : DataW Value} {x : Nd} {r f n l : Value} (h : Turn [mb, t, nb] wk w') (hM : wk.ownsMap Tryz.prog k R mb N D) (hT : TrAt wk t r f n l) (hb : NdAt wk nb x) : Ks wk w' := fun q _ _ _ _ _ _ hs => by
  refine (h.block q (Array.getElem?_eq_some_iff.1 (show wk.heap[q]? = _ from hs)).1 (fun e => ?_)).trans hs
  simp at e
  rcases e with rfl | rfl | rfl
  · obtain ⟨es, c, he, _⟩ := hM
    rw [show wk.heap[q]? = _ from hs] at he; cases he
  · have := (show wk.heap[q]? = _ from hs).symm.trans hT
    simp at this
  · have := (show wk.heap[q]? = _ from hs).symm.trans hb
    simp [Nd.arr] at this

theorem wf3 : (Lit.int .i64 3).wf = true := by decide
theorem row_ne_map {w : World} {base e n b N k : Nat} {v : Value} {xs : List Value} {D : DataW Value} (h : w.ownsRow base e 1 v n xs) (hm : w.ownsMap Tryz.prog k R b N D) : v.ownBlock ≠ some b := fun hv => by
  obtain ⟨es, c, he, _⟩ := hm
  rcases h.2 with ⟨rfl, _⟩ | ⟨g, cap, cur, rfl, _, hg, _⟩
  · simp [Value.ownBlock] at hv
  · obtain rfl : g = b := by simpa [Value.ownBlock] using hv
    rw [hg] at he; cases he
theorem row_keep {w w' : World} {B e n : Nat} {v : Value} {xs : List Value} (h : w.ownsRow B e 1 v n xs) (hb : Below w.heap.size w w') : w'.ownsRow B e 1 v n xs := own_turn h (S := []) (Turn.below hb) (by simp)

section
variable {w : World} {t rt rm fm na am nb Nr Na : Nat} {Dr Da : DataW Value} {md1 md2 tk links nm : Int} {v : Value} {base : Nat} {m : Int} {wk : World}
theorem Aw.below (h : Aw w t rt rm fm na am nb Nr Na Dr Da md1 md2 tk links nm v base m wk) {w' : World} (hb : Below wk.heap.size wk w') : Aw w t rt rm fm na am nb Nr Na Dr Da md1 md2 tk links nm v base m w' :=
  { h with hT := h.hT.below hb h.hT.lt, hr := h.hr.below hb h.hr.lt, hM := map_below h.hM hb h.hM.lt, ha := h.ha.below hb h.ha.lt, hMa := map_below h.hMa hb h.hMa.lt, hb := h.hb.below hb h.hb.lt, hF := map_below h.hF hb h.hF.lt, hrow := row_keep h.hrow hb, bl := h.bl.trans (hb.mono h.bl.size) }
theorem Aw.g (h : Aw w t rt rm fm na am nb Nr Na Dr Da md1 md2 tk links nm v base m wk) : G3 (g3 rt rm na nb Dr Da (xa rt am md1) (xb md2 tk v links)) rt rm na am nb Dr Da (xa rt am md1) (xb md2 tk v links) := g3_is h.ra h.rb h.ab
theorem Aw.cl (h : Aw w t rt rm fm na am nb Nr Na Dr Da md1 md2 tk links nm v base m wk) : Closed (g3 rt rm na nb Dr Da (xa rt am md1) (xb md2 tk v links)) := h.g.closed h.cr h.ca
theorem Aw.amb (h : Aw w t rt rm fm na am nb Nr Na Dr Da md1 md2 tk links nm v base m wk) : Amb (g3 rt rm na nb Dr Da (xa rt am md1) (xb md2 tk v links)) m wk :=
  ⟨(h.bl.cell (p := ⟨0, 0, none⟩) h.z0).trans h.hm, h.g.gr h.hr h.hM h.ha h.hMa h.hb⟩

theorem aw_stat (h : Aw w t rt rm fm na am nb Nr Na Dr Da md1 md2 tk links nm v base m wk) (h1 : look Dr (sk s_a) = ptr na) (h2 : look Da (sk s_b) = ptr nb) :
    Calls Tryz.prog 18 #[.pointer (some ⟨t, 0, none⟩), .string sE, .string p_adb] wk fun e w' => e = .returned (.tuple #[.agg #[.int .i64 3, .bool false, .int .i64 md2, .int .i64 tk, .int .i64 2, .int .i64 links], .int .i64 0]) ∧ Aw w t rt rm fm na am nb Nr Na Dr Da md1 md2 tk links nm v base m w' := by
  obtain ⟨gg, cap, cur, hv, _⟩ := row_shape h.hrow (by decide)
  refine (stat_file t nb (xb md2 tk v links) _ 2 cap sE p_adb wk h.hb rfl hv (fun w2 hB => ?_)).mono ?_
  · have h' := h.below hB
    have hf := find_c _ h'.cl t rt rt _ _ _ sE p_adb m w2 (by decide) (by decide) h'.amb h'.hT h'.g.sr h'.g.sr ab_adb.2.2 h'.g.home
    rw [h'.g.find_adb h1 h2] at hf
    exact hf
  · rintro e w' ⟨rfl, hB⟩
    exact ⟨rfl, h.below hB⟩

theorem aw_link (h : Aw w t rt rm fm na am nb Nr Na Dr Da md1 md2 tk links nm v base m wk) (h1 : look Dr (sk s_a) = ptr na) (h2 : look Da (sk s_b) = ptr nb) (h3 : look Dr (sk s_c) = .pointer none) (hNr : Nr < 900) (hl : 0 ≤ links) (hl2 : links < 100) (hn : 0 ≤ nm) (hn2 : nm < 100) :
    Calls Tryz.prog 29 #[.pointer (some ⟨t, 0, none⟩), .string sE, .string p_ab, .string p_c] wk fun e w' => e = .returned (.int .i64 0) ∧ Aw w t rt rm fm na am nb (Nr + 1) Na (Dr.put (sk s_c) (.held (ptr nb))) Da md1 md2 tk (links + 1) (nm + 1) v base m w' ∧ Ks wk w' := by
  have hsk := h.g.seek_c 2
  rw [h3] at hsk
  have e1 := nd_ne_tr h.hr h.hT
  have e2 := nd_ne_map h.hr h.hM
  have e3 := nd_ne_tr h.ha h.hT
  have e4 := nd_ne_map h.ha h.hM
  have e5 := tr_ne_map h.hT h.hMa
  have e6 := nd_ne_map h.hb h.hMa
  have e7 := tr_ne_map h.hT h.hF
  have e8 := nd_ne_map h.hb h.hF
  have e9 := nd_ne_map h.hb h.hM
  have f1 := row_ne_map h.hrow h.hM
  have f2 := row_ne h.hrow (show wk.heap[t]? = some (.cells _ 79 (0, 0)) from h.hT) (by decide)
  have f3 := row_ne h.hrow (show wk.heap[nb]? = some (.cells (xb md2 tk v links).arr 82 (0, 0)) from h.hb) (by decide)
  have hnr := h.nr
  have hra := h.ra
  have hrb := h.rb
  have hab := h.ab
  have hrf := h.rf
  have hrm := h.rmam
  refine (link_file _ h.cl t rt rt rt 0 rm Nr nb s_c nm _ _ (xr rt rm) (xb md2 tk v links) Dr sE p_ab p_c m wk (by decide) (by decide) (by decide) h.amb h.hT h.g.sr h.g.sr h.g.home ab_ab.2.2 (h.g.find_ab h1 h2) h.hb rfl ⟨hsk, ⟨_, h.hr, rfl⟩, by omega, by omega, by omega, by decide, h.g.r, h.hr, rfl, h.hM, by omega⟩ hrb hl (show links < _ by omega)).mono ?_
  rintro e w' ⟨rfl, hb', hM', hT', hU⟩
  refine ⟨rfl, { h with nr := by omega, hT := hT', hr := hU.nd h.hr (by simp; omega), hM := hM', ha := hU.nd h.ha (by simp; omega), hMa := hU.map h.hMa (by simp; omega), hb := hb', hF := hU.map h.hF (by simp; omega), hrow := own_turn h.hrow hU (fun g hg e => ?_), bl := h.bl.trans (hU.toBelow h.bl.size (by have := h.r0; have := h.t0; have := h.b0; simp; omega)), cr := fun s => ?_ }, Ks.turn hU h.hM h.hT h.hb⟩
  · simp at e
    rcases e with rfl | rfl | rfl
    · exact f1 hg
    · exact f2 hg
    · exact f3 hg
  · rw [lookPut h.hM.isMap]
    by_cases hs : s = s_c
    · rw [if_pos hs]; exact .inr (.inr rfl)
    · rw [if_neg hs]; exact h.cr s

theorem aw_remove (h : Aw w t rt rm fm na am nb Nr Na Dr Da md1 md2 tk links nm v base m wk) (h1 : look Dr (sk s_a) = ptr na) (h2 : look Da (sk s_b) = ptr nb) (hl : 2 ≤ links) (hl2 : links < 100) (hn : 1 ≤ nm) (hn2 : nm < 100) :
    Calls Tryz.prog 25 #[.pointer (some ⟨t, 0, none⟩), .string sE, .string p_ab, .bool false] wk fun e w' => e = .returned (.int .i64 0) ∧ Aw w t rt rm fm na am nb Nr Na Dr (Da.del (sk s_b)) md1 md2 tk (links - 1) (nm - 1) v base m w' ∧ Ks wk w' := by
  have hsk := h.g.seek_ab h1 15
  rw [h2] at hsk
  have e1 := nd_ne_tr h.hr h.hT
  have e2 := nd_ne_map h.hr h.hMa
  have e3 := nd_ne_tr h.ha h.hT
  have e4 := nd_ne_map h.ha h.hMa
  have e5 := tr_ne_map h.hT h.hM
  have e6 := nd_ne_map h.hb h.hMa
  have e7 := tr_ne_map h.hT h.hF
  have e8 := nd_ne_map h.hb h.hF
  have e9 := nd_ne_map h.hb h.hM
  have f1 := row_ne_map h.hrow h.hMa
  have f2 := row_ne h.hrow (show wk.heap[t]? = some (.cells _ 79 (0, 0)) from h.hT) (by decide)
  have f3 := row_ne h.hrow (show wk.heap[nb]? = some (.cells (xb md2 tk v links).arr 82 (0, 0)) from h.hb) (by decide)
  have hra := h.ra
  have hrb := h.rb
  have hab := h.ab
  have hrf := h.rf
  have hrm := h.rmam
  have hfa := h.fmam
  refine (remove_file _ h.cl t rt rt na nb am Na s_b nm _ _ (xa rt am md1) (xb md2 tk v links) Da sE p_ab m wk (by decide) (by decide) h.amb h.hT h.g.sr h.g.sr h.g.home hsk (by decide) h.ha rfl h.hMa h.hb rfl (show 1 ≤ links by omega) (show links < _ by omega) hn (by omega) (.inl (show links - 1 ≠ 0 by omega))).mono ?_
  rintro e w' ⟨rfl, hM', hb', hT', hU⟩
  refine ⟨rfl, { h with hT := hT', hr := hU.nd h.hr (by simp; omega), hM := hU.map h.hM (by simp; omega), ha := hU.nd h.ha (by simp; omega), hMa := hM', hb := hb', hF := hU.map h.hF (by simp; omega), hrow := own_turn h.hrow hU (fun g hg e => ?_), bl := h.bl.trans (hU.toBelow h.bl.size (by have := h.a0; have := h.t0; have := h.b0; simp; omega)), ca := fun s => ?_ }, Ks.turn hU h.hMa h.hT h.hb⟩
  · simp at e
    rcases e with rfl | rfl | rfl
    · exact f1 hg
    · exact f2 hg
    · exact f3 hg
  · rw [lookDel]
    by_cases hs : s = s_b
    · rw [if_pos hs]; exact .inl rfl
    · rw [if_neg hs]; exact h.ca s

theorem aw_rename (h : Aw w t rt rm fm na am nb Nr Na Dr Da md1 md2 tk links nm v base m wk) (h1 : look Dr (sk s_a) = ptr na) (h2 : look Da (sk s_d) = .pointer none) :
    Calls Tryz.prog 19 #[.pointer (some ⟨t, 0, none⟩), .string sE, .string p_a, .string p_ad] wk fun e w' => e = .returned (.int .i64 16) ∧ Aw w t rt rm fm na am nb Nr Na Dr Da md1 md2 tk links nm v base m w' ∧ Ks wk w' := by
  have hs1 := h.g.seek_a 15
  rw [h1] at hs1
  have hs2 := h.g.seek_ad h1 15
  rw [h2] at hs2
  refine (rename_inval _ h.cl t rt rt rt na s_a s_d _ _ _ (xa rt am md1) sE p_a p_ad m wk (by decide) (by decide) (by decide) h.amb h.hT h.g.sr h.g.sr h.g.home hs1 hs2 h.ha rfl).mono ?_
  rintro e w' ⟨rfl, hB⟩
  exact ⟨rfl, h.below hB, Ks.below hB⟩
theorem aw_rmroot (h : Aw w t rt rm fm na am nb Nr Na Dr Da md1 md2 tk links nm v base m wk) :
    Calls Tryz.prog 25 #[.pointer (some ⟨t, 0, none⟩), .string sE, .string p_r, .bool true] wk fun e w' => e = .returned (.int .i64 15) ∧ Aw w t rt rm fm na am nb Nr Na Dr Da md1 md2 tk links nm v base m w' ∧ Ks wk w' := by
  refine (remove_err _ h.cl t rt rt _ _ _ sE p_r true m 15 wk (by decide) (by decide) h.amb h.hT h.g.sr h.g.sr h.g.home (h.g.seek_r 15)).mono ?_
  rintro e w' ⟨rfl, hB⟩
  exact ⟨rfl, h.below hB, Ks.below hB⟩
theorem aw_find (h : Aw w t rt rm fm na am nb Nr Na Dr Da md1 md2 tk links nm v base m wk) (h1 : look Dr (sk s_c) = ptr nb) :
    Calls Tryz.prog 30 #[.pointer (some ⟨t, 0, none⟩), .string sE, .string p_cr] wk fun e w' => e = .returned (.tuple #[.int .i64 0, .int .i64 3]) ∧ Aw w t rt rm fm na am nb Nr Na Dr Da md1 md2 tk links nm v base m w' ∧ Ks wk w' := by
  have hf := find_c _ h.cl t rt rt _ _ _ sE p_cr m wk (by decide) (by decide) h.amb h.hT h.g.sr h.g.sr ab_cr.2.2 h.g.home
  rw [h.g.find_cr h1] at hf
  refine (Find_err t 3 (by decide) sE p_cr wk hf).mono ?_
  rintro e w' ⟨rfl, hB⟩
  exact ⟨rfl, h.below hB, Ks.below hB⟩
theorem aw_read (h : Aw w t rt rm fm na am nb Nr Na Dr Da md1 md2 tk links nm v base m wk) :
    Calls Tryz.prog 26 #[.pointer (some ⟨t, 0, none⟩), .int .i64 3, .int .i64 1, .int .i64 9] wk fun e w' => ∃ v', e = .returned v' ∧ Aw w t rt rm fm na am nb Nr Na Dr Da md1 md2 tk links nm v base m w' ∧ (convert 33 9 v').run Tryz.prog w' = .ok (.string ⟨#[121]⟩) w' ∧ Ks wk w' := by
  obtain ⟨gg, cap, cur, hv, _⟩ := row_shape h.hrow (by decide)
  have hrow := h.hrow
  have hb := h.hb
  rw [hv] at hrow
  refine (read_c t nb fm 1 _ 3 (xb md2 tk v links) _ 2 cap base 1 9 (u8s [120, 121]) _ _ _ wk h.hT h.hF wf3 (look_put_same isMap_E (isKey_i 3) _) hb hv hrow (u8s_one _) (by decide) (by decide) (by decide) (by decide)).mono ?_
  rintro e w' ⟨v', rfl, ho, hB⟩
  exact ⟨v', rfl, h.below hB, conv_own (l := [121]) ho rfl, Ks.below hB⟩
theorem aw_files (h : Aw w t rt rm fm na am nb Nr Na Dr Da md1 md2 tk links nm v base m wk) :
    Calls Tryz.prog 14 #[.pointer (some ⟨t, 0, none⟩)] wk fun e w' => e = .returned (.int .i64 1) ∧ w' = wk := by
  refine (files_c t fm 1 _ _ _ _ wk h.hT h.hF).mono ?_
  rintro e w' ⟨rfl, rfl⟩
  exact ⟨rfl, rfl⟩
end
end Go.Proofs.YtcldnodmlmmjbaaGreatDoor
