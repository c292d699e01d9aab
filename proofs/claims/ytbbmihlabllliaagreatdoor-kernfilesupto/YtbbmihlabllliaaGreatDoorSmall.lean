/- The tree with the root alone, and with one file in the root. -/
import Derived.Test.YtbbmihlabllliaaGreatDoorPure
namespace Go.Proofs.YtbbmihlabllliaaGreatDoor
open Go.RowKit Go.Shelf Go.Maps

abbrev xr (rt rm : Nat) : Nd := ⟨1, 493, 0, true, ptr rt, .map (some rm), .slice none 0 0, 0, 0⟩
abbrev mE : DataW Value := .map []
theorem isMap_E : IsMap mE := ⟨[], rfl⟩

theorem seekF_inv {g : Graph} (hcl : Closed g) {root home : Nat} {s : ByteArray} {non : Int} {p : Plc} (h0 : (g root).isSome = true) (h1 : (g home).isSome = true) (h : seekF g root home s non = .ok p) :
    s.toList.isEmpty = false ∧ toDir g (if isAbs s = true then root else home) (aheadS s) = .ok p.dir ∧ ((lastS s).toList.isEmpty || isDot (lastS s)) = false ∧ isNm (lastS s) = true := by
  have hst : (g (if isAbs s = true then root else home)).isSome = true := by
    by_cases ha : isAbs s = true
    · rw [if_pos ha]; exact h0
    · rw [if_neg ha]; exact h1
  rw [seekF] at h
  by_cases he : s.toList.isEmpty = true
  · rw [if_pos he] at h; cases h
  · rw [if_neg he] at h
    cases htd : toDir g (if isAbs s = true then root else home) (aheadS s) with
    | error e' => rw [htd] at h; cases h
    | ok d =>
      obtain ⟨x, D, hgd, hd⟩ := toDir_ok hcl hst htd
      rw [htd] at h
      simp only [hgd] at h
      by_cases hl : ((lastS s).toList.isEmpty || isDot (lastS s)) = true
      · rw [if_pos hl] at h; cases h
      · rw [if_neg hl] at h
        by_cases hn : isNm (lastS s) = false
        · rw [if_pos hn] at h; cases h
        · rw [if_neg hn] at h
          cases h
          exact ⟨by simpa using he, rfl, by simpa using hl, by simpa using hn⟩
theorem seekF_mk {g : Graph} {root home d : Nat} {s : ByteArray} {non : Int} {x : Nd} {D : DataW Value} (h1 : s.toList.isEmpty = false) (h2 : toDir g (if isAbs s = true then root else home) (aheadS s) = .ok d) (h3 : ((lastS s).toList.isEmpty || isDot (lastS s)) = false) (h4 : isNm (lastS s) = true) (hg : g d = some (x, D)) :
    seekF g root home s non = .ok ⟨d, lastS s, look D (sk (lastS s)), isEnd s⟩ := by
  rw [seekF, if_neg (by rw [h1]; decide), h2]
  simp only [hg]
  rw [if_neg (by rw [h3]; decide), if_neg (by rw [h4]; decide)]

section
variable (rt rm : Nat)
def g0 : Graph := gOf [(rt, xr rt rm, mE)]
theorem g0_rt : g0 rt rm rt = some (xr rt rm, mE) := by simp [g0, gOf]
theorem g0_inv {b : Nat} {x : Nd} {D : DataW Value} (h : g0 rt rm b = some (x, D)) : b = rt ∧ x = xr rt rm ∧ D = mE := by
  by_cases hb : rt = b
  · subst hb; rw [g0_rt] at h; cases h; exact ⟨rfl, rfl, rfl⟩
  · simp [g0, gOf, hb] at h
theorem closed0 : Closed (g0 rt rm) := fun b x D h hd => by
  obtain ⟨rfl, rfl, rfl⟩ := g0_inv rt rm h
  exact ⟨⟨b, rfl, by rw [g0_rt]; rfl⟩, fun s => .inl (look_empty _)⟩
theorem gr0 {w : World} {N : Nat} (hn : NdAt w rt (xr rt rm)) (hm : w.ownsMap Tryz.prog 9 R rm N mE) : Gr w (g0 rt rm) := fun b x D h => by
  obtain ⟨rfl, rfl, rfl⟩ := g0_inv rt rm h
  exact ⟨hn, fun _ => ⟨rm, N, rfl, hm⟩⟩
theorem toDir_empty {g : Graph} {b : Nat} {x : Nd} {D : DataW Value} (hg : g b = some (x, D)) (hd : x.dir = true) {s : ByteArray} (hs : ptsOf s = []) : toDir g b s = .ok b := by
  simp [toDir, hs, leadF, dirF, hg, hd]

/-- From the root alone nothing leads away. -/
theorem lead_root : ∀ (l : List ByteArray) (b : Nat), leadF (g0 rt rm) rt l = .ok b → b = rt ∧ ∀ (g : Graph) (D : DataW Value), g rt = some (xr rt rm, D) → leadF g rt l = .ok rt
  | [], b, h => by cases h; exact ⟨rfl, fun _ _ _ => rfl⟩
  | p :: r, b, h => by
    simp only [leadF] at h
    by_cases h1 : p = ⟨#[46]⟩
    · have hs : stepF (g0 rt rm) rt p = .ok rt := by simp [stepF, g0_rt, h1]
      rw [hs] at h
      obtain ⟨hb, hr⟩ := lead_root r b h
      refine ⟨hb, fun g D hg => ?_⟩
      have hs' : stepF g rt p = .ok rt := by simp [stepF, hg, h1]
      simp only [leadF, hs']
      exact hr g D hg
    · by_cases h2 : p = ⟨#[46, 46]⟩
      · have hs : stepF (g0 rt rm) rt p = .ok rt := by simp [stepF, g0_rt, h2, blk]
        rw [hs] at h
        obtain ⟨hb, hr⟩ := lead_root r b h
        refine ⟨hb, fun g D hg => ?_⟩
        have hs' : stepF g rt p = .ok rt := by simp [stepF, hg, h2, blk]
        simp only [leadF, hs']
        exact hr g D hg
      · by_cases h3 : isNm p = false
        · have hs : stepF (g0 rt rm) rt p = .error 13 := by simp [stepF, g0_rt, h1, h2, h3]
          rw [hs] at h; cases h
        · have hs : stepF (g0 rt rm) rt p = .error 1 := by simp [stepF, g0_rt, h1, h2, h3, look_empty, isNil]
          rw [hs] at h; cases h
theorem toDir_root {s : ByteArray} {d : Nat} (h : toDir (g0 rt rm) rt s = .ok d) : d = rt ∧ ∀ (g : Graph) (D : DataW Value), g rt = some (xr rt rm, D) → toDir g rt s = .ok rt := by
  unfold toDir at h
  cases hl : leadF (g0 rt rm) rt (ptsOf s) with
  | error e => rw [hl] at h; cases h
  | ok b =>
    obtain ⟨rfl, hr⟩ := lead_root rt rm _ _ hl
    rw [hl] at h
    simp only [dirF, g0_rt] at h
    cases h
    exact ⟨rfl, fun g D hg => by simp [toDir, hr g D hg, dirF, hg]⟩

/-- One file in the root. -/
def g1 (n : Nat) (xf : Nd) (nme : ByteArray) : Graph := gOf [(rt, xr rt rm, mE.put (sk nme) (.held (ptr n))), (n, xf, mE)]
variable {n : Nat} {xf : Nd} {nme : ByteArray}
theorem g1_rt : g1 rt rm n xf nme rt = some (xr rt rm, mE.put (sk nme) (.held (ptr n))) := by simp [g1, gOf]
theorem g1_n (hne : rt ≠ n) : g1 rt rm n xf nme n = some (xf, mE) := by simp [g1, gOf, hne]
theorem g1_inv (hne : rt ≠ n) {b : Nat} {x : Nd} {D : DataW Value} (h : g1 rt rm n xf nme b = some (x, D)) : (b = rt ∧ x = xr rt rm ∧ D = mE.put (sk nme) (.held (ptr n))) ∨ (b = n ∧ x = xf) := by
  by_cases hb : rt = b
  · subst hb; rw [g1_rt] at h; cases h; exact .inl ⟨rfl, rfl, rfl⟩
  · by_cases hc : n = b
    · subst hc; rw [g1_n rt rm hne] at h; cases h; exact .inr ⟨rfl, rfl⟩
    · simp [g1, gOf, hb, hc] at h
theorem closed1 (hne : rt ≠ n) (hf : xf.dir = false) : Closed (g1 rt rm n xf nme) := fun b x D h hd => by
  rcases g1_inv rt rm hne h with ⟨rfl, rfl, rfl⟩ | ⟨rfl, rfl⟩
  · refine ⟨⟨b, rfl, by rw [g1_rt]; rfl⟩, fun s => ?_⟩
    rw [lookPut isMap_E]
    by_cases hs : s = nme
    · rw [if_pos hs]; exact .inr ⟨n, rfl, by rw [g1_n _ _ hne]; rfl⟩
    · rw [if_neg hs]; exact .inl (look_empty _)
  · rw [hf] at hd; cases hd
theorem gr1 (hne : rt ≠ n) (hf : xf.dir = false) {w : World} {N : Nat} (hn : NdAt w rt (xr rt rm)) (hm : w.ownsMap Tryz.prog 9 R rm N (mE.put (sk nme) (.held (ptr n)))) (hx : NdAt w n xf) : Gr w (g1 rt rm n xf nme) := fun b x D h => by
  rcases g1_inv rt rm hne h with ⟨rfl, rfl, rfl⟩ | ⟨rfl, rfl⟩
  · exact ⟨hn, fun _ => ⟨rm, N, rfl, hm⟩⟩
  · exact ⟨hx, fun hd => by rw [hf] at hd; cases hd⟩
end
end Go.Proofs.YtbbmihlabllliaaGreatDoor
