/- What follows of tr, by mathematics alone. -/
import Derived.Test.YtfkoehfkiommpaaGreatDoorZSpec
namespace Go.Proofs.YtfkoehfkiommpaaGreatDoor.Tr
open Go.Proofs.YtfkoehfkiommpaaGreatDoor.Op

/-- A byte as a string of tr, in digits to the base eight. -/
def code1 (b : UInt8) : List UInt8 := [92, 48 + b / 64, 48 + b / 8 % 8, 48 + b % 8]
def codeL (l : List UInt8) : List UInt8 := l.flatMap code1

theorem sign_codeN : ∀ n, n < 256 → octs 3 (code1 (UInt8.ofNat n)).tail = (code1 (UInt8.ofNat n)).tail ∧ UInt8.ofNat (octV (code1 (UInt8.ofNat n)).tail) = UInt8.ofNat n := by decide +kernel
theorem sign_code (b : UInt8) : octs 3 (code1 b).tail = (code1 b).tail ∧ UInt8.ofNat (octV (code1 b).tail) = b := by
  have h := sign_codeN b.toNat (UInt8.toNat_lt b)
  rwa [UInt8.ofNat_toNat] at h
theorem octs3 (a b c : UInt8) (r : List UInt8) (h : octs 3 [a, b, c] = [a, b, c]) : octs 3 (a :: b :: c :: r) = [a, b, c] := by
  simp only [octs] at h ⊢
  by_cases ha : isOct a = true
  · by_cases hb : isOct b = true
    · by_cases hc : isOct c = true
      · simp [ha, hb, hc]
      · simp [ha, hb, hc] at h
    · simp [ha, hb] at h
  · simp [ha] at h
theorem sign_codeL (b : UInt8) (r : List UInt8) : signS (code1 b ++ r) = (b, 4) := by
  have h := sign_code b
  have h3 := octs3 _ _ _ r h.1
  show signS (92 :: (48 + b / 64) :: (48 + b / 8 % 8) :: (48 + b % 8) :: r) = _
  rw [signS, if_neg (by simp), h3, if_neg (by simp)]
  exact Prod.ext h.2 rfl
theorem step_code (b : UInt8) (r : List UInt8) (hr : r[0]? ≠ some 45) : stepS (code1 b ++ r) = (4, addS b) := by
  have h1 : classS (code1 b ++ r) = none := by
    show classS (92 :: (48 + b / 64) :: (48 + b / 8 % 8) :: (48 + b % 8) :: r) = _
    rw [classS, if_neg (by simp)]
  have h2 : equalS (code1 b ++ r) = none := by
    show equalS (92 :: (48 + b / 64) :: (48 + b / 8 % 8) :: (48 + b % 8) :: r) = _
    rw [equalS, if_neg (by simp)]
  have h3 : timesS (code1 b ++ r) = none := by
    show timesS (92 :: (48 + b / 64) :: (48 + b / 8 % 8) :: (48 + b % 8) :: r) = _
    rw [timesS, if_neg (by simp)]
  rw [stepS, h1, h2, h3]
  show plainS (code1 b ++ r) = _
  rw [plainS, sign_codeL]
  have hd : (code1 b ++ r).drop 4 = r := rfl
  simp only [hd]
  rw [if_neg (fun h => hr h.1)]
theorem setN_code : ∀ (l : List UInt8) (n : Nat) (x : St), l.length ≤ n → setN n (codeL l) x = { x with out := x.out ++ l }
  | [], n, x, _ => by
    cases n with
    | zero => simp [setN]
    | succ n => simp [codeL, setN]
  | b :: l, 0, x, h => by simp at h
  | b :: l, n + 1, x, h => by
    have hr : (codeL l)[0]? ≠ some 45 := by
      cases l with
      | nil => simp [codeL]
      | cons c l => simp [codeL, code1]
    have hs := step_code b (codeL l) hr
    have e : codeL (b :: l) = code1 b ++ codeL l := by simp [codeL]
    rw [e]
    show setN (n + 1) (92 :: ([48 + b / 64, 48 + b / 8 % 8, 48 + b % 8] ++ codeL l)) x = _
    rw [setN]
    show setN n ((code1 b ++ codeL l).drop (stepS (code1 b ++ codeL l)).1) ((stepS (code1 b ++ codeL l)).2 x) = _
    rw [hs]
    show setN n (codeL l) (addS b x) = _
    rw [setN_code l n _ (by simpa using h)]
    simp [addS]
theorem codeL_len (l : List UInt8) : (codeL l).length = 4 * l.length := by
  induction l with
  | nil => rfl
  | cons b l ih => simp only [codeL, List.flatMap_cons, List.length_append, List.length_cons] at ih ⊢; rw [ih]; simp [code1]; omega
theorem set_code (l : List UInt8) : setS (codeL l) = (l, -1, true) := by
  rw [setS, setN_code l _ _ (by rw [codeL_len]; omega)]
  simp [setE, st0]
theorem code_head (l : List UInt8) : (codeL l).head? ≠ some 45 := by
  cases l with
  | nil => simp [codeL]
  | cons c l => simp [codeL, code1]

/-- A string of tr that is an operand. -/
theorem parse_ops (l : Opts) (a : List UInt8) (rest : List ByteArray) (h : a.head? ≠ some 45) : parseS trSpec l (⟨a.toArray⟩ :: rest) = some (l, ⟨a.toArray⟩ :: rest) := by
  refine parseS_stop _ _ _ _ ?_ (.inr (by simpa using h))
  intro e
  have : a = [45, 45] := by
    have := congrArg (fun s : ByteArray => s.data.toList) e
    simpa [dashes] using this
  rw [this] at h
  simp at h
theorem trA_two (x y : List UInt8) (hx : x ≠ []) (hy : y ≠ []) : trA [⟨(codeL x).toArray⟩, ⟨(codeL y).toArray⟩] = some ⟨false, false, true, x, y⟩ := by
  rw [trA, parse_ops _ _ _ (code_head x)]
  simp [trS, hasO, set_code, fillS, hx, hy]
theorem parse_d (x : List UInt8) : parseS trSpec [] [⟨#[45, 100]⟩, ⟨(codeL x).toArray⟩] = some ([(100, ⟨#[]⟩)], [⟨(codeL x).toArray⟩]) := by
  rw [parseS_go _ _ _ _ (by decide) (by decide)]
  have e : groupS trSpec [] ((⟨#[45, 100]⟩ : ByteArray).data.toList.drop 1) [⟨(codeL x).toArray⟩] = some ([(100, ⟨#[]⟩)], [⟨(codeL x).toArray⟩]) := by
    show groupS trSpec [] [100] _ = _
    rw [groupS, if_neg (by decide), if_pos (by decide), groupS]
    rfl
  rw [e]
  exact parse_ops _ _ _ (code_head x)
theorem parse_s (x : List UInt8) : parseS trSpec [] [⟨#[45, 115]⟩, ⟨(codeL x).toArray⟩] = some ([(115, ⟨#[]⟩)], [⟨(codeL x).toArray⟩]) := by
  rw [parseS_go _ _ _ _ (by decide) (by decide)]
  have e : groupS trSpec [] ((⟨#[45, 115]⟩ : ByteArray).data.toList.drop 1) [⟨(codeL x).toArray⟩] = some ([(115, ⟨#[]⟩)], [⟨(codeL x).toArray⟩]) := by
    show groupS trSpec [] [115] _ = _
    rw [groupS, if_neg (by decide), if_pos (by decide), groupS]
    rfl
  rw [e]
  exact parse_ops _ _ _ (code_head x)
theorem parse_cd (x : List UInt8) : parseS trSpec [] [⟨#[45, 99, 100]⟩, ⟨(codeL x).toArray⟩] = some ([(99, ⟨#[]⟩), (100, ⟨#[]⟩)], [⟨(codeL x).toArray⟩]) := by
  rw [parseS_go _ _ _ _ (by decide) (by decide)]
  have e : groupS trSpec [] ((⟨#[45, 99, 100]⟩ : ByteArray).data.toList.drop 1) [⟨(codeL x).toArray⟩] = some ([(99, ⟨#[]⟩), (100, ⟨#[]⟩)], [⟨(codeL x).toArray⟩]) := by
    show groupS trSpec [] [99, 100] _ = _
    rw [groupS, if_neg (by decide), if_pos (by decide), groupS, if_neg (by decide), if_pos (by decide), groupS]
    rfl
  rw [e]
  exact parse_ops _ _ _ (code_head x)
theorem trA_d (x : List UInt8) : trA [⟨#[45, 100]⟩, ⟨(codeL x).toArray⟩] = some ⟨true, false, false, x, x⟩ := by
  rw [trA, parse_d]
  simp [trS, hasO, set_code]
theorem trA_s (x : List UInt8) : trA [⟨#[45, 115]⟩, ⟨(codeL x).toArray⟩] = some ⟨false, true, false, x, x⟩ := by
  rw [trA, parse_s]
  simp [trS, hasO, set_code]
theorem trA_cd (x : List UInt8) : trA [⟨#[45, 99, 100]⟩, ⟨(codeL x).toArray⟩] = some ⟨true, false, false, othersS x, othersS x⟩ := by
  rw [trA, parse_cd]
  simp [trS, hasO, set_code]

theorem others_mem (x : List UInt8) (b : UInt8) : (othersS x).contains b = !x.contains b := by
  have h : b ∈ othersS x ↔ b ∉ x := by
    simp only [othersS, bytesOf, List.mem_map, List.mem_filter, List.mem_range]
    constructor
    · rintro ⟨n, ⟨_, h⟩, rfl⟩
      simpa using h
    · intro h
      exact ⟨b.toNat, ⟨UInt8.toNat_lt b, by simpa using h⟩, by simp⟩
  by_cases hb : b ∈ x
  · have := mt h.1 (by simpa using hb)
    simp [hb, this]
  · have := h.2 hb
    simp [hb, this]
theorem del_all (x : List UInt8) (l : List UInt8) : (Tr.all ⟨true, false, false, x, x⟩ l) = l.filter fun b => !x.contains b := by
  simp only [Tr.all]
  induction l with
  | nil => rfl
  | cons b l ih =>
    rw [if_neg (by simp)] at ih ⊢
    rw [List.flatMap_cons, ih, Tr.each]
    by_cases h : b ∈ x
    · simp [h]
    · simp [h]
theorem cd_all (x : List UInt8) (l : List UInt8) : (Tr.all ⟨true, false, false, othersS x, othersS x⟩ l) = l.filter fun b => x.contains b := by
  rw [del_all]
  congr 1
  funext b
  rw [others_mem]
  simp
theorem parts_count (x l : List UInt8) (c : UInt8) : ((l.filter fun b => !x.contains b).count c) + ((l.filter fun b => x.contains b).count c) = l.count c := by
  induction l with
  | nil => rfl
  | cons b l ih =>
    by_cases h : x.contains b = true
    · have h1 : (!x.contains b) = false := by rw [h]; rfl
      rw [List.filter_cons_of_neg (by rw [h1]; simp), List.filter_cons_of_pos (by rw [h]), List.count_cons, List.count_cons]
      omega
    · have h1 : (!x.contains b) = true := by cases e : x.contains b with | true => exact absurd e h | false => rfl
      rw [List.filter_cons_of_pos (by rw [h1]), List.filter_cons_of_neg (by simpa using h), List.count_cons, List.count_cons]
      omega
theorem sq_each (x : List UInt8) (l : List UInt8) : Tr.all ⟨false, true, false, x, x⟩ l = squeezeS x.contains none l := by
  simp only [Tr.all, if_true]
  congr 1
  induction l with
  | nil => rfl
  | cons b l ih =>
    simp only [List.flatMap_cons, Tr.each] at ih ⊢
    rw [ih]
    split <;> simp
theorem sq_len (p : UInt8 → Bool) : ∀ (l : List UInt8) (q : Option UInt8), (squeezeS p q l).length ≤ l.length
  | [], q => by simp [squeezeS]
  | b :: r, q => by
    rw [squeezeS]
    split
    · have := sq_len p r q; simp; omega
    · have := sq_len p r (some b); simp; omega
theorem sq_twice (p : UInt8 → Bool) : ∀ (l : List UInt8) (q : Option UInt8), squeezeS p q (squeezeS p q l) = squeezeS p q l
  | [], q => by simp [squeezeS]
  | b :: r, q => by
    rw [squeezeS]
    split
    · exact sq_twice p r q
    · rename_i h
      rw [squeezeS, if_neg h, sq_twice p r (some b)]
theorem all_len (t : Tr) (l : List UInt8) : (t.all l).length ≤ l.length := by
  have h1 : (l.flatMap t.each).length ≤ l.length := by
    induction l with
    | nil => simp
    | cons b l ih =>
      have : (t.each b).length ≤ 1 := by unfold Tr.each; split <;> (try split) <;> (try split) <;> simp
      rw [List.flatMap_cons, List.length_append, List.length_cons]; omega
  unfold Tr.all
  split
  · exact Nat.le_trans (sq_len _ _ _) h1
  · exact h1

theorem lastAt_none : ∀ {one : List UInt8} {b : UInt8}, b ∉ one → lastAt one b = none
  | [], _, _ => rfl
  | c :: r, b, h => by
    rw [lastAt, lastAt_none (fun e => h (by simp [e]))]
    simp only
    rw [if_neg (fun e => h (by simp [e]))]
theorem lastAt_some : ∀ {one : List UInt8} {b : UInt8} {i : Nat}, one.Nodup → one[i]? = some b → lastAt one b = some i
  | [], _, _, _, h => by simp at h
  | c :: r, b, 0, hd, h => by
    have e : c = b := by simpa using h
    rw [List.nodup_cons] at hd
    rw [lastAt, lastAt_none (e ▸ hd.1)]
    simp only
    rw [if_pos e]
  | c :: r, b, i + 1, hd, h => by
    rw [List.nodup_cons] at hd
    rw [lastAt, lastAt_some hd.2 (by simpa using h)]
theorem becomes_back {x y : List UInt8} (hx : x.Nodup) (hy : y.Nodup) (hl : x.length = y.length) {b : UInt8} (h : b ∈ y → b ∈ x) : becomesS y x (becomesS x y b) = b := by
  by_cases hb : b ∈ x
  · obtain ⟨i, hi, he⟩ := List.getElem_of_mem hb
    have hi' : i < y.length := by omega
    have e1 : becomesS x y b = y[i] := by
      rw [becomesS, lastAt_some hx (i := i) (by rw [List.getElem?_eq_getElem hi, he])]
      simp [hi']
    rw [e1, becomesS, lastAt_some hy (i := i) (by rw [List.getElem?_eq_getElem hi'])]
    simp [hi, he]
  · have hb' : b ∉ y := fun e => hb (h e)
    have e1 : becomesS x y b = b := by rw [becomesS, lastAt_none hb]
    rw [e1, becomesS, lastAt_none hb']
theorem each_move (x y : List UInt8) (b : UInt8) : Tr.each ⟨false, false, true, x, y⟩ b = [becomesS x y b] := by
  unfold Tr.each
  by_cases h : b ∈ x
  · simp [h]
  · simp [h, becomesS, lastAt_none h]
theorem move_all (x y l : List UInt8) : Tr.all ⟨false, false, true, x, y⟩ l = l.map (becomesS x y) := by
  show (if false = true then _ else l.flatMap (Tr.each ⟨false, false, true, x, y⟩)) = _
  rw [if_neg (by simp)]
  induction l with
  | nil => rfl
  | cons b l ih => rw [List.flatMap_cons, ih, each_move]; rfl
theorem move_back {x y l : List UInt8} (hx : x.Nodup) (hy : y.Nodup) (hl : x.length = y.length) (h : ∀ b ∈ l, b ∈ y → b ∈ x) : Tr.all ⟨false, false, true, y, x⟩ (Tr.all ⟨false, false, true, x, y⟩ l) = l := by
  rw [move_all, move_all, List.map_map]
  have : ∀ b ∈ l, (becomesS y x ∘ becomesS x y) b = id b := fun b hb => becomes_back hx hy hl (h b hb)
  rw [List.map_congr_left this, List.map_id]

/-- So many bytes of a text, each once. -/
def distN (many : Nat) : List UInt8 → List UInt8 → List UInt8
  | [], out => out
  | c :: r, out => if out.length < many then distN many r (if c ∈ out then out else out ++ [c]) else out
def distS (b : List UInt8) (many : Nat) : List UInt8 := distN many b []
theorem dist_nodup (many : Nat) : ∀ (b out : List UInt8), out.Nodup → (distN many b out).Nodup
  | [], out, h => h
  | c :: r, out, h => by
    rw [distN]
    split
    · refine dist_nodup many r _ ?_
      split
      · exact h
      · rename_i hc
        rw [List.nodup_append]
        refine ⟨h, by simp, fun a ha b hb => ?_⟩
        have : b = c := by simpa using hb
        subst this
        exact fun e => hc (e ▸ ha)
    · exact h
theorem dist_len (many : Nat) : ∀ (b out : List UInt8), out.length ≤ many → (distN many b out).length ≤ many
  | [], out, h => h
  | c :: r, out, h => by
    rw [distN]
    split
    · refine dist_len many r _ ?_
      split
      · exact h
      · simp; omega
    · exact h
theorem dist_id (many : Nat) : ∀ (b out : List UInt8), (out ++ b).Nodup → out.length + b.length ≤ many → distN many b out = out ++ b
  | [], out, _, _ => by simp [distN]
  | c :: r, out, h, hl => by
    have hc : c ∉ out := by
      rw [List.nodup_append] at h
      exact fun e => h.2.2 c e c (by simp) rfl
    simp at hl
    rw [distN, if_pos (by omega), if_neg hc, dist_id many r _ (by simpa using h) (by simp; omega)]
    simp
theorem dist_app (many : Nat) : ∀ (a b out : List UInt8), (distN many a out).length < many → distN many (a ++ b) out = distN many b (distN many a out)
  | [], b, out, h => by simp [distN]
  | c :: r, b, out, h => by
    rw [List.cons_append, distN, distN]
    split
    · rename_i hl
      rw [distN, if_pos hl] at h
      exact dist_app many r b _ h
    · rename_i hl
      rw [distN, if_neg hl] at h
      omega
theorem dist_one {x : List UInt8} (hx : x.Nodup) (hl : x.length < 999) (c : UInt8) : ((distS (x ++ [c]) 999).length = x.length) ↔ c ∈ x := by
  have e : distN 999 x [] = x := by have := dist_id 999 x [] (by simpa using hx) (by simp; omega); simpa using this
  rw [distS, dist_app 999 x [c] [] (by rw [e]; exact hl), e, distN, if_pos hl, distN]
  split
  · rename_i h; simp [h]
  · rename_i h; simp [h]

-- the chapter's examples
def exA : List ByteArray := [⟨#[97, 45, 99]⟩, ⟨#[65, 45, 67]⟩]
def exB : List ByteArray := [⟨#[45, 100]⟩, ⟨#[91, 58, 100, 105, 103, 105, 116, 58, 93]⟩]
def exC : List ByteArray := [⟨#[45, 115]⟩, ⟨#[97]⟩]
def exD : List ByteArray := [⟨#[45, 99, 115]⟩, ⟨#[97, 45, 122]⟩, ⟨#[91, 92, 110, 42, 93]⟩]
theorem ex_a : (trA exA).map (fun t => t.all [97, 98, 99, 100]) = some [65, 66, 67, 100] := by decide +kernel
theorem ex_b : (trA exB).map (fun t => t.all [97, 49, 98, 50]) = some [97, 98] := by decide +kernel
theorem ex_c : (trA exC).map (fun t => t.all [97, 97, 98, 97, 97]) = some [97, 98, 97] := by decide +kernel
theorem ex_d : (trA exD).map (fun t => t.all [97, 98, 32, 32, 99, 49]) = some [97, 98, 10, 99, 10] := by decide +kernel
end Go.Proofs.YtfkoehfkiommpaaGreatDoor.Tr
