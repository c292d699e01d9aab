/- The tree of the chapter's examples: the root, a directory in it, and a file. -/
import Derived.Test.YtcldnodmlmmjbaaGreatDoorHolds
import Derived.Test.YtcldnodmlmmjbaaGreatDoorLink
namespace Go.Proofs.YtcldnodmlmmjbaaGreatDoor
open Go.RowKit Go.Shelf Go.Maps

theorem step_name {g : Graph} {b c : Nat} {x : Nd} {D : DataW Value} {p : ByteArray} (hg : g b = some (x, D)) (hd : x.dir = true) (h1 : ¬ p = ⟨#[46]⟩) (h2 : ¬ p = ⟨#[46, 46]⟩) (hn : isNm p = true) (hl : look D (sk p) = ptr c) : stepF g b p = .ok c := by
  simp [stepF, hg, hd, h1, h2, hn, hl, isNil, blk]
theorem step_dot {g : Graph} {b : Nat} {x : Nd} {D : DataW Value} (hg : g b = some (x, D)) (hd : x.dir = true) : stepF g b ⟨#[46]⟩ = .ok b := by
  simp [stepF, hg, hd]
theorem a_dot : ¬ s_a = ⟨#[46]⟩ ∧ ¬ s_a = ⟨#[46, 46]⟩ := ⟨by decide, by decide⟩
theorem b_dot : ¬ s_b = ⟨#[46]⟩ ∧ ¬ s_b = ⟨#[46, 46]⟩ := ⟨by decide, by decide⟩
theorem c_dot : ¬ s_c = ⟨#[46]⟩ ∧ ¬ s_c = ⟨#[46, 46]⟩ := ⟨by decide, by decide⟩

abbrev xa (rt am : Nat) (md : Int) : Nd := ⟨2, md, 0, true, ptr rt, .map (some am), .slice none 0 0, 0, 0⟩
abbrev xb (md tk : Int) (v : Value) (links : Int) : Nd := ⟨3, md, tk, false, .pointer none, .map none, v, links, 0⟩

/-- Three nodes. -/
structure G3 (g : Graph) (rt rm na am nb : Nat) (Dr Da : DataW Value) (x2 x3 : Nd) : Prop where
  r : g rt = some (xr rt rm, Dr)
  a : g na = some (x2, Da)
  b : g nb = some (x3, mE)
  inv : ∀ k x D, g k = some (x, D) → (k = rt ∧ x = xr rt rm ∧ D = Dr) ∨ (k = na ∧ x = x2 ∧ D = Da) ∨ (k = nb ∧ x = x3 ∧ D = mE)
def g3 (rt rm na nb : Nat) (Dr Da : DataW Value) (x2 x3 : Nd) : Graph := gOf [(rt, xr rt rm, Dr), (na, x2, Da), (nb, x3, mE)]
theorem g3_is {rt rm na am nb : Nat} {Dr Da : DataW Value} {x2 x3 : Nd} (h1 : rt ≠ na) (h2 : rt ≠ nb) (h3 : na ≠ nb) : G3 (g3 rt rm na nb Dr Da x2 x3) rt rm na am nb Dr Da x2 x3 := by
  refine ⟨by simp [g3, gOf], by simp [g3, gOf, h1], by simp [g3, gOf, h2, h3], fun k x D h => ?_⟩
  by_cases k1 : rt = k
  · subst k1; simp [g3, gOf] at h; obtain ⟨rfl, rfl⟩ := h; exact .inl ⟨rfl, rfl, rfl⟩
  · by_cases k2 : na = k
    · subst k2; simp [g3, gOf, h1] at h; obtain ⟨rfl, rfl⟩ := h; exact .inr (.inl ⟨rfl, rfl, rfl⟩)
    · by_cases k3 : nb = k
      · subst k3; simp [g3, gOf, h2, h3] at h; obtain ⟨rfl, rfl⟩ := h; exact .inr (.inr ⟨rfl, rfl, rfl⟩)
      · simp [g3, gOf, k1, k2, k3] at h
section
variable {g : Graph} {rt rm na am nb : Nat} {Dr Da : DataW Value} {md1 md2 tk links : Int} {v : Value} (h : G3 g rt rm na am nb Dr Da (xa rt am md1) (xb md2 tk v links))
include h
theorem G3.closed (hr : ∀ s : ByteArray, look Dr (sk s) = .pointer none ∨ look Dr (sk s) = ptr na ∨ look Dr (sk s) = ptr nb) (ha : ∀ s : ByteArray, look Da (sk s) = .pointer none ∨ look Da (sk s) = ptr nb) : Closed g := fun k x D hk hd => by
  rcases h.inv k x D hk with ⟨rfl, rfl, rfl⟩ | ⟨rfl, rfl, rfl⟩ | ⟨rfl, rfl, rfl⟩
  · refine ⟨⟨k, rfl, by rw [h.r]; rfl⟩, fun s => ?_⟩
    rcases hr s with e | e | e
    · exact .inl e
    · exact .inr ⟨na, e, by rw [h.a]; rfl⟩
    · exact .inr ⟨nb, e, by rw [h.b]; rfl⟩
  · refine ⟨⟨rt, rfl, by rw [h.r]; rfl⟩, fun s => ?_⟩
    rcases ha s with e | e
    · exact .inl e
    · exact .inr ⟨nb, e, by rw [h.b]; rfl⟩
  · cases hd
theorem G3.gr {w : World} {Nr Na : Nat} (hr : NdAt w rt (xr rt rm)) (hM : w.ownsMap Tryz.prog 9 R rm Nr Dr) (ha : NdAt w na (xa rt am md1)) (hMa : w.ownsMap Tryz.prog 9 R am Na Da) (hb : NdAt w nb (xb md2 tk v links)) : Gr w g := fun k x D hk => by
  rcases h.inv k x D hk with ⟨rfl, rfl, rfl⟩ | ⟨rfl, rfl, rfl⟩ | ⟨rfl, rfl, rfl⟩
  · exact ⟨hr, fun _ => ⟨rm, Nr, rfl, hM⟩⟩
  · exact ⟨ha, fun _ => ⟨am, Na, rfl, hMa⟩⟩
  · exact ⟨hb, fun hd => by cases hd⟩
theorem G3.sr : (g rt).isSome = true := by rw [h.r]; rfl
theorem G3.home : toDir g rt sE = .ok rt := toDir_empty h.r rfl pts_E
theorem G3.toA (hl : look Dr (sk s_a) = ptr na) {s : ByteArray} (hs : ptsOf s = [s_a]) : toDir g rt s = .ok na := by
  have := step_name h.r rfl a_dot.1 a_dot.2 nm_a hl
  simp [toDir, hs, leadF, this, dirF, h.a]
/-- `a/./b`, `/a/b`. -/
theorem G3.find_adb (hl : look Dr (sk s_a) = ptr na) (hb : look Da (sk s_b) = ptr nb) : findF g rt rt p_adb = .ok nb := by
  have h1 := step_name h.r rfl a_dot.1 a_dot.2 nm_a hl
  have h2 := step_dot h.a rfl
  have h3 := step_name h.a rfl b_dot.1 b_dot.2 nm_b hb
  rw [findF, if_neg (by rw [ab_adb.2.2]; decide), if_neg (by rw [ab_adb.2.1]; decide), ite_self, pts_adb]
  simp [leadF, h1, h2, h3]
theorem G3.find_ab (hl : look Dr (sk s_a) = ptr na) (hb : look Da (sk s_b) = ptr nb) : findF g rt rt p_ab = .ok nb := by
  have h1 := step_name h.r rfl a_dot.1 a_dot.2 nm_a hl
  have h3 := step_name h.a rfl b_dot.1 b_dot.2 nm_b hb
  rw [findF, if_neg (by rw [ab_ab.2.2]; decide), if_neg (by rw [ab_ab.2.1]; decide), ite_self, pts_ab]
  simp [leadF, h1, h3]
theorem G3.find_cr (hl : look Dr (sk s_c) = ptr nb) : findF g rt rt p_cr = .error 3 := by
  have h1 := step_name h.r rfl c_dot.1 c_dot.2 nm_c hl
  rw [findF, if_neg (by rw [ab_cr.2.2]; decide), if_pos ab_cr.2.1, ite_self]
  simp [toDir, pts_cr, leadF, h1, dirF, h.b]
theorem G3.seek_c (non : Int) : seekF g rt rt p_c non = .ok ⟨rt, s_c, look Dr (sk s_c), false⟩ := by
  have := seekF_mk (g := g) (root := rt) (home := rt) (s := p_c) (non := non) ab_c.2.2 (by rw [ite_self, ah_c]; exact toDir_empty h.r rfl pts_r) (by rw [la_c, empt_no.2.2.1, dots_no.2.2.1]; rfl) (by rw [la_c]; exact nm_c) h.r
  rw [this, la_c, ab_c.2.1]
theorem G3.seek_a (non : Int) : seekF g rt rt p_a non = .ok ⟨rt, s_a, look Dr (sk s_a), false⟩ := by
  have := seekF_mk (g := g) (root := rt) (home := rt) (s := p_a) (non := non) ab_a.2.2 (by rw [ite_self, ah_a]; exact toDir_empty h.r rfl pts_r) (by rw [la_a, empt_no.1, dots_no.1]; rfl) (by rw [la_a]; exact nm_a) h.r
  rw [this, la_a, ab_a.2.1]
theorem G3.seek_ab (hl : look Dr (sk s_a) = ptr na) (non : Int) : seekF g rt rt p_ab non = .ok ⟨na, s_b, look Da (sk s_b), false⟩ := by
  have := seekF_mk (g := g) (root := rt) (home := rt) (s := p_ab) (non := non) ab_ab.2.2 (by rw [ite_self, ah_ab]; exact h.toA hl pts_ar) (by rw [la_ab, empt_no.2.1, dots_no.2.1]; rfl) (by rw [la_ab]; exact nm_b) h.a
  rw [this, la_ab, ab_ab.2.1]
theorem G3.seek_ad (hl : look Dr (sk s_a) = ptr na) (non : Int) : seekF g rt rt p_ad non = .ok ⟨na, s_d, look Da (sk s_d), false⟩ := by
  have := seekF_mk (g := g) (root := rt) (home := rt) (s := p_ad) (non := non) ab_ad.2.2 (by rw [ite_self, ah_ad]; exact h.toA hl pts_ar) (by rw [la_ad, empt_no.2.2.2.1, dots_no.2.2.2]; rfl) (by rw [la_ad]; exact nm_d) h.a
  rw [this, la_ad, ab_ad.2.1]
theorem G3.seek_r (non : Int) : seekF g rt rt p_r non = .error non := by
  rw [seekF, if_neg (by rw [ab_r.2.2]; decide), ite_self, ah_r, h.home]
  simp only [la_r]
  rw [if_pos (by rw [empt_no.2.2.2.2]; rfl)]
end
end Go.Proofs.YtcldnodmlmmjbaaGreatDoor
