/- The contracts of the program's ways to a directory, to what a path leads to, and to a name's place. -/
import Derived.Test.YtbbmihlabllliaaGreatDoorName
namespace Go.Proofs.YtbbmihlabllliaaGreatDoor
open Go.RowKit Go.Shelf

theorem stepF_err {g : Graph} {a : Nat} {p : ByteArray} {e : Int} (ha : (g a).isSome = true) (h : stepF g a p = .error e) : e ≠ 0 := by
  unfold stepF at h
  cases hg : g a with
  | none => rw [hg] at ha; cases ha
  | some y =>
    obtain ⟨x, D⟩ := y
    rw [hg] at h
    simp only at h
    repeat' split at h
    all_goals cases h
    all_goals decide
theorem leadF_err {g : Graph} (hc : Closed g) : ∀ (l : List ByteArray) {a : Nat} {e : Int}, (g a).isSome = true → leadF g a l = .error e → e ≠ 0
  | [], a, e, _, h => by cases h
  | p :: r, a, e, ha, h => by
    simp only [leadF] at h
    cases hs : stepF g a p with
    | error e' => rw [hs] at h; cases h; exact stepF_err ha hs
    | ok c => rw [hs] at h; exact leadF_err hc r (stepF_some hc ha hs) h

def dirF (g : Graph) : Except Int Nat → Except Int Nat
  | .ok b => match g b with | some (x, _) => if x.dir = true then .ok b else .error 3 | none => .error 0
  | .error e => .error e
def toDir (g : Graph) (b0 : Nat) (s : ByteArray) : Except Int Nat := dirF g (leadF g b0 (ptsOf s))

/-- A tree in memory, as the ways through it see it. -/
structure Amb (g : Graph) (m : Int) (w : World) : Prop where
  m : w.cell? ⟨0, 0, none⟩ = some (.int .i64 m)
  gr : Gr w g
theorem Amb.below {g : Graph} {m : Int} {w w' : World} (h : Amb g m w) (hb : Below w.heap.size w w') : Amb g m w' :=
  ⟨(hb.cell (p := ⟨0, 0, none⟩) (World.block_lt_of_cell? w _ h.m)).trans h.m, h.gr.below hb⟩

set_option maxHeartbeats 1000000 in
theorem toDir_c (g : Graph) (hcl : Closed g) (b0 : Nat) (s : ByteArray) (m : Int) (w : World) (hs : s.size ≤ 2147483648) (hA : Amb g m w) (h0 : (g b0).isSome = true) :
    Calls Tryz.prog 146 #[.pointer (some ⟨b0, 0, none⟩), .string s] w fun e w' => e = .returned (leadV (toDir g b0 s)) ∧ Below w.heap.size w w' := by
  have hl := lead_c name_says g hcl b0 s m w hs hA.m hA.gr h0
  have HL := Lib.hid hA
  clear hA
  unfold toDir
  cases hr : leadF g b0 (ptsOf s) with
  | error e =>
    have hne := leadF_err hcl _ h0 hr
    have hne' : (e == 0) = false := by simpa using hne
    rw [hr] at hl
    simp only [leadV] at hl
    go_enter Tryz.func146, Tryz.ntmps146
    go_wp2_with (go_at_call 149; refine hl.mono ?_; rintro e w2 ⟨rfl, hB⟩)
    refine bodyPost_ret (results_tmp2 rfl _ _ _) rfl ?_
    exact ⟨rfl, hB⟩
  | ok b =>
    have hsb := leadF_some hcl _ h0 hr
    obtain ⟨⟨x, D⟩, hg⟩ := Option.isSome_iff_exists.1 hsb
    rw [hr] at hl
    simp only [leadV] at hl
    cases hd : x.dir with
    | true =>
      have hv : dirF g (.ok b) = .ok b := by simp [dirF, hg, hd]
      rw [hv]
      go_enter Tryz.func146, Tryz.ntmps146
      go_wp2_with (go_at_call 149; refine hl.mono ?_; rintro e w2 ⟨rfl, hB⟩; have hx := ((HL.out.below hB).gr b x D hg).1.c3; rw [hd] at hx)
      refine bodyPost_ret (results_tmp2 rfl _ _ _) rfl ?_
      exact ⟨rfl, hB⟩
    | false =>
      have hv : dirF g (.ok b) = .error 3 := by simp [dirF, hg, hd]
      rw [hv]
      go_enter Tryz.func146, Tryz.ntmps146
      go_wp2_with (go_at_call 149; refine hl.mono ?_; rintro e w2 ⟨rfl, hB⟩; have hx := ((HL.out.below hB).gr b x D hg).1.c3; rw [hd] at hx)
      refine bodyPost_ret (results_tmp2 rfl _ _ _) rfl ?_
      exact ⟨rfl, hB⟩

theorem toDir_err {g : Graph} (hcl : Closed g) {b0 : Nat} {s : ByteArray} {e : Int} (h0 : (g b0).isSome = true) (h : toDir g b0 s = .error e) : e ≠ 0 := by
  unfold toDir at h
  cases hr : leadF g b0 (ptsOf s) with
  | error e' => rw [hr] at h; cases h; exact leadF_err hcl _ h0 hr
  | ok b =>
    rw [hr] at h
    obtain ⟨⟨x, D⟩, hg⟩ := Option.isSome_iff_exists.1 (leadF_some hcl _ h0 hr)
    simp only [dirF, hg] at h
    split at h
    · cases h
    · cases h; decide
theorem toDir_ok {g : Graph} (hcl : Closed g) {b0 b : Nat} {s : ByteArray} (h0 : (g b0).isSome = true) (h : toDir g b0 s = .ok b) : ∃ x D, g b = some (x, D) ∧ x.dir = true := by
  unfold toDir at h
  cases hr : leadF g b0 (ptsOf s) with
  | error e' => rw [hr] at h; cases h
  | ok c =>
    rw [hr] at h
    obtain ⟨⟨x, D⟩, hg⟩ := Option.isSome_iff_exists.1 (leadF_some hcl _ h0 hr)
    simp only [dirF, hg] at h
    split at h
    · cases h; exact ⟨x, D, hg, by assumption⟩
    · cases h

set_option maxHeartbeats 1000000 in
theorem home_c (g : Graph) (hcl : Closed g) (t root : Nat) (fm nm la : Value) (s : ByteArray) (m : Int) (w : World) (hs : s.size ≤ 2147483648) (hA : Amb g m w) (hT : TrAt w t (ptr root) fm nm la) (h0 : (g root).isSome = true) :
    Calls Tryz.prog 109 #[.pointer (some ⟨t, 0, none⟩), .string s] w fun e w' => e = .returned (leadV (toDir g root s)) ∧ Below w.heap.size w w' := by
  have hl := toDir_c g hcl root s m w hs hA h0
  have hc := hT.c0
  simp only [ptr] at hc
  clear hA
  cases hr : toDir g root s with
  | error e =>
    rw [hr] at hl
    simp only [leadV] at hl
    go_enter Tryz.func109, Tryz.ntmps109
    go_wp2_with (go_at_call 146; refine hl.mono ?_; rintro e w2 ⟨rfl, hB⟩)
    refine bodyPost_ret (results_tmp2 rfl _ _ _) rfl ?_
    exact ⟨rfl, hB⟩
  | ok b =>
    rw [hr] at hl
    simp only [leadV] at hl
    go_enter Tryz.func109, Tryz.ntmps109
    go_wp2_with (go_at_call 146; refine hl.mono ?_; rintro e w2 ⟨rfl, hB⟩)
    refine bodyPost_ret (results_tmp2 rfl _ _ _) rfl ?_
    exact ⟨rfl, hB⟩

def isAbs (s : ByteArray) : Bool := Lib.hasPrefix s.data.toList [47]
def isEnd (s : ByteArray) : Bool := Lib.hasSuffix s.data.toList [47]
set_option maxHeartbeats 1000000 in
theorem start_c (t root home : Nat) (fm nm la : Value) (s : ByteArray) (w : World) (hT : TrAt w t (ptr root) fm nm la) :
    Calls Tryz.prog 147 #[.pointer (some ⟨t, 0, none⟩), .pointer (some ⟨home, 0, none⟩), .string s] w fun e w' => e = .returned (ptr (if isAbs s = true then root else home)) ∧ w' = w := by
  have hc := hT.c0
  simp only [ptr] at hc
  have hp := Tryz.strings_HasPrefix s ⟨#[47]⟩ w
  cases hr : isAbs s with
  | true =>
    rw [show Lib.hasPrefix s.data.toList (⟨#[47]⟩ : ByteArray).data.toList = true from hr] at hp
    go_enter Tryz.func147, Tryz.ntmps147
    go_wp2_with (go_at_call 171; refine hp.mono ?_; rintro e w2 ⟨rfl, hw⟩; rw [hw])
    go_ret
    exact ⟨rfl, rfl⟩
  | false =>
    rw [show Lib.hasPrefix s.data.toList (⟨#[47]⟩ : ByteArray).data.toList = false from hr] at hp
    go_enter Tryz.func147, Tryz.ntmps147
    go_wp2_with (go_at_call 171; refine hp.mono ?_; rintro e w2 ⟨rfl, hw⟩; rw [hw])
    go_ret
    exact ⟨rfl, rfl⟩
set_option maxHeartbeats 1000000 in
theorem ends_c (s : ByteArray) (w : World) (hs : s.size ≤ 9223372036854775807) : Calls Tryz.prog 148 #[.string s] w fun e w' => e = .returned (.bool (isEnd s)) ∧ w' = w := by
  go_enter Tryz.func148, Tryz.ntmps148
  go_wp2_with (go_at_call 172; refine (Tryz.strings_HasSuffix s ⟨#[47]⟩ w hs).mono ?_; rintro e w2 ⟨rfl, hw⟩; rw [hw])
  go_ret
  exact ⟨rfl, rfl⟩
def trimS (s : ByteArray) : ByteArray := ⟨(Lib.trimRightB s.data.toList 47).toArray⟩
theorem trimS_size (s : ByteArray) : (trimS s).size ≤ s.size := by
  simp only [trimS, ByteArray.size, List.size_toArray, Lib.trimRightB, List.length_reverse]
  refine Nat.le_trans (List.dropWhile_sublist _).length_le ?_
  simp
theorem last_nat (q : ByteArray) : ∃ k : Nat, k ≤ q.size ∧ Lib.lastIndexByte q 47 + 1 = (k : Int) := by
  rcases Lib.lastIdx_spec q 47 q.size with ⟨h, _⟩ | ⟨i, hi, h, _⟩
  · exact ⟨0, Nat.zero_le _, by unfold Lib.lastIndexByte; rw [h]; rfl⟩
  · exact ⟨i + 1, hi, by unfold Lib.lastIndexByte; rw [h]; rfl⟩
def cutAt (q : ByteArray) : Nat := (Lib.lastIndexByte q 47 + 1).toNat
def aheadS (s : ByteArray) : ByteArray := (trimS s).extract 0 (cutAt (trimS s))
def lastS (s : ByteArray) : ByteArray := (trimS s).extract (cutAt (trimS s)) (trimS s).size

set_option maxHeartbeats 1000000 in
theorem split_c (s : ByteArray) (w : World) (hs : s.size ≤ 2147483648) : Calls Tryz.prog 155 #[.string s] w fun e w' => e = .returned (.tuple #[.string (aheadS s), .string (lastS s)]) ∧ Below w.heap.size w w' := by
  unfold aheadS lastS
  have hz := trimS_size s
  have h1 := Tryz.strings_TrimRight_one s 47 (by decide) w (by omega)
  have h2 := Tryz.strings_LastIndexByte (trimS s) 47 (by omega) w
  obtain ⟨k, hk, hke⟩ := last_nat (trimS s)
  have hc : cutAt (trimS s) = k := by rw [cutAt, hke]; rfl
  rw [hc]
  rw [show (⟨(Lib.trimRightB s.data.toList 47).toArray⟩ : ByteArray) = trimS s from rfl] at h1
  have hlast : Lib.lastIndexByte (trimS s) 47 = (k : Int) - 1 := by omega
  rw [hlast] at h2
  clear hke hc hlast
  generalize trimS s = q at *
  go_enter Tryz.func155, Tryz.ntmps155
  go_wp2_with (first
    | (go_at_call 178; refine h1.mono ?_; rintro e w2 ⟨rfl, hw⟩; rw [hw])
    | (go_at_call 179; refine h2.mono ?_; rintro e w2 ⟨rfl, hw⟩; rw [hw]))
  go_region
  go_wp2
  refine bodyPost_ret (results_tmp2 rfl _ _ _) rfl ?_
  exact ⟨rfl, (Below.refl _ _).drew⟩

/-- A name's place. -/
structure Plc where
  dir : Nat
  name : ByteArray
  node : Value
  slash : Bool
theorem aheadS_size (s : ByteArray) : (aheadS s).size ≤ s.size := by
  have := trimS_size s
  simp only [aheadS, ByteArray.size_extract]; omega
theorem lastS_size (s : ByteArray) : (lastS s).size ≤ s.size := by
  have := trimS_size s
  simp only [lastS, ByteArray.size_extract]; omega
def seekF (g : Graph) (root home : Nat) (s : ByteArray) (non : Int) : Except Int Plc :=
  if s.toList.isEmpty = true then .error 1
  else match toDir g (if isAbs s = true then root else home) (aheadS s) with
    | .error e => .error e
    | .ok d =>
      if ((lastS s).toList.isEmpty || isDot (lastS s)) = true then .error non
      else if isNm (lastS s) = false then .error 13
      else match g d with
        | some (_, D) => .ok ⟨d, lastS s, look D (sk (lastS s)), isEnd s⟩
        | none => .error 0
def placeV (p : Plc) : Value := .agg #[.pointer (some ⟨p.dir, 0, none⟩), .string p.name, p.node, .bool p.slash]
def zeroP : Value := .agg #[.pointer none, .string ⟨#[]⟩, .pointer none, .bool false]
def seekV : Except Int Plc → Value
  | .ok p => .tuple #[placeV p, .int .i64 0]
  | .error e => .tuple #[zeroP, .int .i64 e]

/-- A place's four cells. -/
def PlAt (w : World) (b : Nat) (x0 x1 x2 x3 : Value) : Prop := w.heap[b]? = some (.cells #[x0, x1, x2, x3] 197)
section
variable {w : World} {b : Nat} {x0 x1 x2 x3 : Value} (h : PlAt w b x0 x1 x2 x3)
include h
theorem PlAt.c0 : w.cell? ⟨b, 0, none⟩ = some x0 := by simp [World.cell?, show w.heap[b]? = _ from h]
theorem PlAt.c1 : w.cell? ⟨b, 1, none⟩ = some x1 := by simp [World.cell?, show w.heap[b]? = _ from h]
theorem PlAt.c2 : w.cell? ⟨b, 2, none⟩ = some x2 := by simp [World.cell?, show w.heap[b]? = _ from h]
theorem PlAt.c3 : w.cell? ⟨b, 3, none⟩ = some x3 := by simp [World.cell?, show w.heap[b]? = _ from h]
theorem PlAt.fz (i : Nat) : w.frozen? ⟨b, i, none⟩ = false := by simp [World.frozen?, show w.heap[b]? = _ from h]
theorem PlAt.lt : b < w.heap.size := (Array.getElem?_eq_some_iff.1 (show w.heap[b]? = _ from h)).1
theorem PlAt.below {w' : World} {B : Nat} (hb : Below B w w') (hB : b < B) : PlAt w' b x0 x1 x2 x3 := (hb.block b hB).trans h
theorem PlAt.set (y0 y1 y2 y3 : Value) : PlAt ((((w.setCell ⟨b, 0, none⟩ y0).setCell ⟨b, 1, none⟩ y1).setCell ⟨b, 2, none⟩ y2).setCell ⟨b, 3, none⟩ y3) b y0 y1 y2 y3 := by
  show (World.heap _)[b]? = _
  simp [World.setCell, Array.getElem?_modify, show w.heap[b]? = _ from h]
end
theorem set4_below {B b : Nat} {a w : World} (h : Below B a w) (hb : B ≤ b) (y0 y1 y2 y3 : Value) : Below B a ((((w.setCell ⟨b, 0, none⟩ y0).setCell ⟨b, 1, none⟩ y1).setCell ⟨b, 2, none⟩ y2).setCell ⟨b, 3, none⟩ y3) :=
  (((h.setCell (p := ⟨b, 0, none⟩) hb _).setCell (p := ⟨b, 1, none⟩) hb _).setCell (p := ⟨b, 2, none⟩) hb _).setCell (p := ⟨b, 3, none⟩) hb _
theorem drew_pl {w : World} {b : Nat} {x0 x1 x2 x3 : Value} (h : PlAt w b x0 x1 x2 x3) : PlAt w.drew b x0 x1 x2 x3 := h
theorem info96 : (Tryz.prog.info? 197).map (·.size) = some 4 := by kernel_rfl
theorem results_p {fn : Func} {p u : Tmp} (h : fn.results = #[.cell p 197, .tmp u]) {tmps : Array Value} {w : World} {b : Nat} {x0 x1 x2 x3 v : Value} (hp : tmps.getD p undef = .pointer (some ⟨b, 0, none⟩)) (hg : PlAt w b x0 x1 x2 x3)
    (hv : tmps.getD u undef = v) : (results fn tmps).run Tryz.prog w = .ok (.tuple #[.agg #[x0, x1, x2, x3], v]) w := by
  rw [results_cell_tmp h, hp, hv]
  simp [asAddr, Result.andThen, run_loadVar_row w b 197 197 #[x0, x1, x2, x3] (0, 0) _ hg Tryz.underlying197 rfl info96]

set_option maxRecDepth 100000 in
set_option maxHeartbeats 4000000 in
theorem seek_c (g : Graph) (hcl : Closed g) (t root home : Nat) (fm nm la : Value) (s : ByteArray) (non : Int) (m : Int) (w : World) (hs : s.size ≤ 2147483648) (hA : Amb g m w) (hT : TrAt w t (ptr root) fm nm la) (h0 : (g root).isSome = true) (h1 : (g home).isSome = true) :
    Calls Tryz.prog 127 #[.pointer (some ⟨t, 0, none⟩), .pointer (some ⟨home, 0, none⟩), .string s, .int .i64 non] w fun e w' => e = .returned (seekV (seekF g root home s non)) ∧ Below w.heap.size w w' := by
  by_cases he : s.toList.isEmpty = true
  · have hv : seekF g root home s non = .error 1 := by rw [seekF, if_pos he]
    rw [hv]
    clear hA hT
    go_enter Tryz.func127, Tryz.ntmps127
    go_wp2_with fail
    refine bodyPost_ret (results_p rfl rfl (show PlAt _ w.heap.size _ _ _ _ from al_new _ _ rfl) rfl) rfl ?_
    exact ⟨rfl, (Below.refl _ _).alloc (Nat.le_refl _) _⟩
  · have he' : s.toList.isEmpty = false := by simpa using he
    obtain ⟨st, hst⟩ : ∃ st, (if isAbs s = true then root else home) = st := ⟨_, rfl⟩
    have hst1 : (g st).isSome = true := by rw [← hst]; split <;> assumption
    have hsa := aheadS_size s
    have hsl := lastS_size s
    have hB1 : Below w.heap.size w (w.alloc (.cells #[.pointer none, .string ⟨#[]⟩, .pointer none, .bool false] 197)) := (Below.refl _ w).alloc (Nat.le_refl _) _
    have hA1 := hA.below hB1
    have hT1 := hT.below hB1 hT.lt
    have hP1 : PlAt (w.alloc (.cells #[.pointer none, .string ⟨#[]⟩, .pointer none, .bool false] 197)) w.heap.size _ _ _ _ := al_new _ _ rfl
    have hS1 : (w.alloc (.cells #[.pointer none, .string ⟨#[]⟩, .pointer none, .bool false] 197)).heap.size = w.heap.size + 1 := World.size_alloc _ _
    cases htd : toDir g st (aheadS s) with
    | error e =>
      have hne := toDir_err hcl hst1 htd
      have hne' : (e == 0) = false := by simpa using hne
      have hv : seekF g root home s non = .error e := by rw [seekF, if_neg he, hst, htd]
      rw [hv]
      clear hv
      go_enter Tryz.func127, Tryz.ntmps127
      go_wp2_with (first
      | (go_at_call 155; refine (split_c s _ hs).mono ?_; rintro e w2 ⟨rfl, hB2⟩; have hA2 := hA1.below hB2; have hT2 := hT1.below hB2 hT1.lt; have hP2 := hP1.below hB2 hP1.lt; have hS2 := hB2.size)
      | (go_at_call 147; refine (start_c t root home fm nm la s _ hT2).mono ?_; rintro e w' ⟨rfl, hw⟩; rw [hw, hst])
      | (go_at_call 146; refine (toDir_c g hcl st (aheadS s) m _ (by omega) hA2 hst1).mono ?_; rintro e w3 ⟨rfl, hB3⟩; rw [htd]; simp only [leadV]; have hA3 := hA2.below hB3; have hP3 := hP2.below hB3 hP2.lt; have hS3 := hB3.size; have hB30 : Below w.heap.size w w3 := (hB1.trans (hB2.mono (by omega))).trans (hB3.mono (by omega)); have q0 := hP3.c0; have q1 := hP3.c1; have q2 := hP3.c2; have q3 := hP3.c3; have z0 := hP3.fz 0; have z1 := hP3.fz 1; have z2 := hP3.fz 2; have z3 := hP3.fz 3)
      )
      refine bodyPost_ret (results_p rfl rfl (hP3.set _ _ _ _) rfl) rfl ?_
      exact ⟨rfl, set4_below hB30 (Nat.le_refl _) _ _ _ _⟩
    | ok d =>
      obtain ⟨x, D, hgd, hdir⟩ := toDir_ok hcl hst1 htd
      by_cases hl1 : (lastS s).toList.isEmpty = true
      · have hv : seekF g root home s non = .error non := by rw [seekF, if_neg he, hst, htd]; simp [hl1]
        rw [hv]
        clear hv
        go_enter Tryz.func127, Tryz.ntmps127
        go_wp2_with (first
      | (go_at_call 155; refine (split_c s _ hs).mono ?_; rintro e w2 ⟨rfl, hB2⟩; have hA2 := hA1.below hB2; have hT2 := hT1.below hB2 hT1.lt; have hP2 := hP1.below hB2 hP1.lt; have hS2 := hB2.size)
      | (go_at_call 147; refine (start_c t root home fm nm la s _ hT2).mono ?_; rintro e w' ⟨rfl, hw⟩; rw [hw, hst])
      | (go_at_call 146; refine (toDir_c g hcl st (aheadS s) m _ (by omega) hA2 hst1).mono ?_; rintro e w3 ⟨rfl, hB3⟩; rw [htd]; simp only [leadV]; have hA3 := hA2.below hB3; have hP3 := hP2.below hB3 hP2.lt; have hS3 := hB3.size; have hB30 : Below w.heap.size w w3 := (hB1.trans (hB2.mono (by omega))).trans (hB3.mono (by omega)); have q0 := hP3.c0; have q1 := hP3.c1; have q2 := hP3.c2; have q3 := hP3.c3; have z0 := hP3.fz 0; have z1 := hP3.fz 1; have z2 := hP3.fz 2; have z3 := hP3.fz 3)
      )
        refine bodyPost_ret (results_p rfl rfl (hP3.set _ _ _ _) rfl) rfl ?_; exact ⟨rfl, set4_below hB30 (Nat.le_refl _) _ _ _ _⟩
      · replace hl1 : (lastS s).toList.isEmpty = false := by simpa using hl1
        by_cases hl2 : isDot (lastS s) = true
        · have hv : seekF g root home s non = .error non := by rw [seekF, if_neg he, hst, htd]; simp [hl2]
          rw [hv]
          clear hv
          go_enter Tryz.func127, Tryz.ntmps127
          go_wp2_with (first
      | (go_at_call 155; refine (split_c s _ hs).mono ?_; rintro e w2 ⟨rfl, hB2⟩; have hA2 := hA1.below hB2; have hT2 := hT1.below hB2 hT1.lt; have hP2 := hP1.below hB2 hP1.lt; have hS2 := hB2.size)
      | (go_at_call 147; refine (start_c t root home fm nm la s _ hT2).mono ?_; rintro e w' ⟨rfl, hw⟩; rw [hw, hst])
      | (go_at_call 146; refine (toDir_c g hcl st (aheadS s) m _ (by omega) hA2 hst1).mono ?_; rintro e w3 ⟨rfl, hB3⟩; rw [htd]; simp only [leadV]; have hA3 := hA2.below hB3; have hP3 := hP2.below hB3 hP2.lt; have hS3 := hB3.size; have hB30 : Below w.heap.size w w3 := (hB1.trans (hB2.mono (by omega))).trans (hB3.mono (by omega)); have q0 := hP3.c0; have q1 := hP3.c1; have q2 := hP3.c2; have q3 := hP3.c3; have z0 := hP3.fz 0; have z1 := hP3.fz 1; have z2 := hP3.fz 2; have z3 := hP3.fz 3)
      | (go_at_call 156; refine (dots_c (lastS s) _).mono ?_; rintro e w' ⟨rfl, hw⟩; rw [hw]))
          refine bodyPost_ret (results_p rfl rfl (hP3.set _ _ _ _) rfl) rfl ?_; exact ⟨rfl, set4_below hB30 (Nat.le_refl _) _ _ _ _⟩
        · replace hl2 : isDot (lastS s) = false := by simpa using hl2
          by_cases hnmv : isNm (lastS s) = true
          · have hv : seekF g root home s non = .ok ⟨d, lastS s, look D (sk (lastS s)), isEnd s⟩ := by rw [seekF, if_neg he, hst, htd]; simp [hl1, hl2, hnmv, hgd]
            rw [hv]
            clear hv
            rcases (hcl d x D hgd hdir).2 (lastS s) with hl | ⟨c, hl, hgc⟩
            · rw [hl]
              go_enter Tryz.func127, Tryz.ntmps127
              go_wp2_with (first
      | (go_at_call 155; refine (split_c s _ hs).mono ?_; rintro e w2 ⟨rfl, hB2⟩; have hA2 := hA1.below hB2; have hT2 := hT1.below hB2 hT1.lt; have hP2 := hP1.below hB2 hP1.lt; have hS2 := hB2.size)
      | (go_at_call 147; refine (start_c t root home fm nm la s _ hT2).mono ?_; rintro e w' ⟨rfl, hw⟩; rw [hw, hst])
      | (go_at_call 146; refine (toDir_c g hcl st (aheadS s) m _ (by omega) hA2 hst1).mono ?_; rintro e w3 ⟨rfl, hB3⟩; rw [htd]; simp only [leadV]; have hA3 := hA2.below hB3; have hP3 := hP2.below hB3 hP2.lt; have hS3 := hB3.size; have hB30 : Below w.heap.size w w3 := (hB1.trans (hB2.mono (by omega))).trans (hB3.mono (by omega)); have q0 := hP3.c0; have q1 := hP3.c1; have q2 := hP3.c2; have q3 := hP3.c3; have z0 := hP3.fz 0; have z1 := hP3.fz 1; have z2 := hP3.fz 2; have z3 := hP3.fz 3)
      | (go_at_call 156; refine (dots_c (lastS s) _).mono ?_; rintro e w' ⟨rfl, hw⟩; rw [hw])
      | (go_at_call 152; refine (name_says (lastS s) _ (by omega)).mono ?_; rintro e w4 ⟨rfl, hB4⟩; rw [hnmv]; clear q0 q1 q2 q3 z0 z1 z2 z3; have hA4 := hA3.below hB4; have hP4 := hP3.below hB4 hP3.lt; have hS4 := hB4.size; have hB40 : Below w.heap.size w w4 := hB30.trans (hB4.mono (by omega)); have q0 := hP4.c0; have q1 := hP4.c1; have q2 := hP4.c2; have q3 := hP4.c3; have z0 := hP4.fz 0; have z1 := hP4.fz 1; have z2 := hP4.fz 2; have z3 := hP4.fz 3; obtain ⟨hN4, hM4⟩ := hA4.gr d x D hgd; obtain ⟨mb, nn, hent, hown⟩ := hM4 hdir; have hd5 := hN4.c5; rw [hent] at hd5; have hlk := lookS hown.drew (s := lastS s) (by unfold maxLen; omega); rw [hl] at hlk))
              go_region_with ((go_at_call 148; refine (ends_c s _ (by omega)).mono ?_; rintro e w' ⟨rfl, hw⟩; rw [hw]))
              all_goals go_wp2
              all_goals (refine bodyPost_ret (results_p rfl rfl (drew_pl (hP4.set _ _ _ _)) rfl) rfl ?_; exact ⟨rfl, (set4_below hB40 (Nat.le_refl _) _ _ _ _).drew⟩)
            · rw [hl]
              go_enter Tryz.func127, Tryz.ntmps127
              go_wp2_with (first
      | (go_at_call 155; refine (split_c s _ hs).mono ?_; rintro e w2 ⟨rfl, hB2⟩; have hA2 := hA1.below hB2; have hT2 := hT1.below hB2 hT1.lt; have hP2 := hP1.below hB2 hP1.lt; have hS2 := hB2.size)
      | (go_at_call 147; refine (start_c t root home fm nm la s _ hT2).mono ?_; rintro e w' ⟨rfl, hw⟩; rw [hw, hst])
      | (go_at_call 146; refine (toDir_c g hcl st (aheadS s) m _ (by omega) hA2 hst1).mono ?_; rintro e w3 ⟨rfl, hB3⟩; rw [htd]; simp only [leadV]; have hA3 := hA2.below hB3; have hP3 := hP2.below hB3 hP2.lt; have hS3 := hB3.size; have hB30 : Below w.heap.size w w3 := (hB1.trans (hB2.mono (by omega))).trans (hB3.mono (by omega)); have q0 := hP3.c0; have q1 := hP3.c1; have q2 := hP3.c2; have q3 := hP3.c3; have z0 := hP3.fz 0; have z1 := hP3.fz 1; have z2 := hP3.fz 2; have z3 := hP3.fz 3)
      | (go_at_call 156; refine (dots_c (lastS s) _).mono ?_; rintro e w' ⟨rfl, hw⟩; rw [hw])
      | (go_at_call 152; refine (name_says (lastS s) _ (by omega)).mono ?_; rintro e w4 ⟨rfl, hB4⟩; rw [hnmv]; clear q0 q1 q2 q3 z0 z1 z2 z3; have hA4 := hA3.below hB4; have hP4 := hP3.below hB4 hP3.lt; have hS4 := hB4.size; have hB40 : Below w.heap.size w w4 := hB30.trans (hB4.mono (by omega)); have q0 := hP4.c0; have q1 := hP4.c1; have q2 := hP4.c2; have q3 := hP4.c3; have z0 := hP4.fz 0; have z1 := hP4.fz 1; have z2 := hP4.fz 2; have z3 := hP4.fz 3; obtain ⟨hN4, hM4⟩ := hA4.gr d x D hgd; obtain ⟨mb, nn, hent, hown⟩ := hM4 hdir; have hd5 := hN4.c5; rw [hent] at hd5; have hlk := lookS hown.drew (s := lastS s) (by unfold maxLen; omega); rw [hl] at hlk))
              go_region_with ((go_at_call 148; refine (ends_c s _ (by omega)).mono ?_; rintro e w' ⟨rfl, hw⟩; rw [hw]))
              all_goals go_wp2
              all_goals (refine bodyPost_ret (results_p rfl rfl (drew_pl (hP4.set _ _ _ _)) rfl) rfl ?_; exact ⟨rfl, (set4_below hB40 (Nat.le_refl _) _ _ _ _).drew⟩)
          · replace hnmv : isNm (lastS s) = false := by simpa using hnmv
            have hv : seekF g root home s non = .error 13 := by rw [seekF, if_neg he, hst, htd]; simp [hl1, hl2, hnmv]
            rw [hv]
            clear hv
            go_enter Tryz.func127, Tryz.ntmps127
            go_wp2_with (first
      | (go_at_call 155; refine (split_c s _ hs).mono ?_; rintro e w2 ⟨rfl, hB2⟩; have hA2 := hA1.below hB2; have hT2 := hT1.below hB2 hT1.lt; have hP2 := hP1.below hB2 hP1.lt; have hS2 := hB2.size)
      | (go_at_call 147; refine (start_c t root home fm nm la s _ hT2).mono ?_; rintro e w' ⟨rfl, hw⟩; rw [hw, hst])
      | (go_at_call 146; refine (toDir_c g hcl st (aheadS s) m _ (by omega) hA2 hst1).mono ?_; rintro e w3 ⟨rfl, hB3⟩; rw [htd]; simp only [leadV]; have hA3 := hA2.below hB3; have hP3 := hP2.below hB3 hP2.lt; have hS3 := hB3.size; have hB30 : Below w.heap.size w w3 := (hB1.trans (hB2.mono (by omega))).trans (hB3.mono (by omega)); have q0 := hP3.c0; have q1 := hP3.c1; have q2 := hP3.c2; have q3 := hP3.c3; have z0 := hP3.fz 0; have z1 := hP3.fz 1; have z2 := hP3.fz 2; have z3 := hP3.fz 3)
      | (go_at_call 156; refine (dots_c (lastS s) _).mono ?_; rintro e w' ⟨rfl, hw⟩; rw [hw])
      | (go_at_call 152; refine (name_says (lastS s) _ (by omega)).mono ?_; rintro e w4 ⟨rfl, hB4⟩; rw [hnmv]; clear q0 q1 q2 q3 z0 z1 z2 z3; have hA4 := hA3.below hB4; have hP4 := hP3.below hB4 hP3.lt; have hS4 := hB4.size; have hB40 : Below w.heap.size w w4 := hB30.trans (hB4.mono (by omega)); have q0 := hP4.c0; have q1 := hP4.c1; have q2 := hP4.c2; have q3 := hP4.c3; have z0 := hP4.fz 0; have z1 := hP4.fz 1; have z2 := hP4.fz 2; have z3 := hP4.fz 3))
            refine bodyPost_ret (results_p rfl rfl (hP4.set _ _ _ _) rfl) rfl ?_; exact ⟨rfl, set4_below hB40 (Nat.le_refl _) _ _ _ _⟩
end Go.Proofs.YtbbmihlabllliaaGreatDoor
