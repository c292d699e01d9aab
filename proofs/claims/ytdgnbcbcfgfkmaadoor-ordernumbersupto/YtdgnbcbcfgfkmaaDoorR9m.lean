/- A key's places: what the landed code reads is what the document says. No program is named here. -/
import Derived.Test.YtdgnbcbcfgfkmaaDoorR4b
import Derived.Test.YtdgnbcbcfgfkmaaDoorQRead
namespace Go.Proofs.YtdgnbcbcfgfkmaaDoor

def flN (c : UInt8) : Nat := if c = 98 then 1 else if c = 100 then 2 else if c = 102 then 4 else if c = 105 then 8 else if c = 110 then 16 else if c = 114 then 32 else 0
def isFl (c : UInt8) : Bool := decide (flN c ≠ 0)
theorem flN_cases (c : UInt8) : (c = 98 ∧ flN c = 1) ∨ (c = 100 ∧ flN c = 2) ∨ (c = 102 ∧ flN c = 4) ∨ (c = 105 ∧ flN c = 8) ∨ (c = 110 ∧ flN c = 16) ∨ (c = 114 ∧ flN c = 32) ∨ (flN c = 0 ∧ c ≠ 98 ∧ c ≠ 100 ∧ c ≠ 102 ∧ c ≠ 105 ∧ c ≠ 110 ∧ c ≠ 114) := by
  unfold flN
  by_cases h1 : c = 98
  · subst h1; simp
  by_cases h2 : c = 100
  · subst h2; simp
  by_cases h3 : c = 102
  · subst h3; simp
  by_cases h4 : c = 105
  · subst h4; simp
  by_cases h5 : c = 110
  · subst h5; simp
  by_cases h6 : c = 114
  · subst h6; simp
  simp [h1, h2, h3, h4, h5, h6]
theorem flN_lt (c : UInt8) : flN c < 64 := by
  rcases flN_cases c with ⟨_, h⟩ | ⟨_, h⟩ | ⟨_, h⟩ | ⟨_, h⟩ | ⟨_, h⟩ | ⟨_, h⟩ | ⟨h, _⟩ <;> omega
theorem or_lt {x y : Nat} (hx : x < 64) (hy : y < 64) : x ||| y < 64 := Nat.or_lt_two_pow (n := 6) hx hy
theorem flagS_none (g : Fg) (c : UInt8) (second : Bool) (h : flN c = 0) : flagS g c second = none := by
  rcases flN_cases c with ⟨_, e⟩ | ⟨_, e⟩ | ⟨_, e⟩ | ⟨_, e⟩ | ⟨_, e⟩ | ⟨_, e⟩ | ⟨_, h1, h2, h3, h4, h5, h6⟩
  · omega
  · omega
  · omega
  · omega
  · omega
  · omega
  · unfold flagS; rw [if_neg h1, if_neg h2, if_neg h3, if_neg h4, if_neg h5, if_neg h6]
/-- The flags of the place that is read, x those of the other one. -/
def gS (second : Bool) (x X : Nat) : Fg := if second then fgOf x X else fgOf X 0
theorem tb00 : Nat.testBit 1 0 = true := rfl
theorem tb01 : Nat.testBit 1 1 = false := rfl
theorem tb02 : Nat.testBit 1 2 = false := rfl
theorem tb03 : Nat.testBit 1 3 = false := rfl
theorem tb04 : Nat.testBit 1 4 = false := rfl
theorem tb05 : Nat.testBit 1 5 = false := rfl
theorem tb10 : Nat.testBit 2 0 = false := rfl
theorem tb11 : Nat.testBit 2 1 = true := rfl
theorem tb12 : Nat.testBit 2 2 = false := rfl
theorem tb13 : Nat.testBit 2 3 = false := rfl
theorem tb14 : Nat.testBit 2 4 = false := rfl
theorem tb15 : Nat.testBit 2 5 = false := rfl
theorem tb20 : Nat.testBit 4 0 = false := rfl
theorem tb21 : Nat.testBit 4 1 = false := rfl
theorem tb22 : Nat.testBit 4 2 = true := rfl
theorem tb23 : Nat.testBit 4 3 = false := rfl
theorem tb24 : Nat.testBit 4 4 = false := rfl
theorem tb25 : Nat.testBit 4 5 = false := rfl
theorem tb30 : Nat.testBit 8 0 = false := rfl
theorem tb31 : Nat.testBit 8 1 = false := rfl
theorem tb32 : Nat.testBit 8 2 = false := rfl
theorem tb33 : Nat.testBit 8 3 = true := rfl
theorem tb34 : Nat.testBit 8 4 = false := rfl
theorem tb35 : Nat.testBit 8 5 = false := rfl
theorem tb40 : Nat.testBit 16 0 = false := rfl
theorem tb41 : Nat.testBit 16 1 = false := rfl
theorem tb42 : Nat.testBit 16 2 = false := rfl
theorem tb43 : Nat.testBit 16 3 = false := rfl
theorem tb44 : Nat.testBit 16 4 = true := rfl
theorem tb45 : Nat.testBit 16 5 = false := rfl
theorem tb50 : Nat.testBit 32 0 = false := rfl
theorem tb51 : Nat.testBit 32 1 = false := rfl
theorem tb52 : Nat.testBit 32 2 = false := rfl
theorem tb53 : Nat.testBit 32 3 = false := rfl
theorem tb54 : Nat.testBit 32 4 = false := rfl
theorem tb55 : Nat.testBit 32 5 = true := rfl
theorem flagS_gS (second : Bool) (x X : Nat) (c : UInt8) (h : flN c ≠ 0) : flagS (gS second x X) c second = some (gS second x (X ||| flN c)) := by
  rcases flN_cases c with ⟨rfl, e⟩ | ⟨rfl, e⟩ | ⟨rfl, e⟩ | ⟨rfl, e⟩ | ⟨rfl, e⟩ | ⟨rfl, e⟩ | ⟨e, _⟩
  all_goals first | (exact absurd e h) | skip
  all_goals
    rw [e]
    cases second <;> simp only [flagS, gS, fgOf, Nat.testBit_or, Bool.or_false, Bool.or_true, if_true, tb00, tb01, tb02, tb03, tb04, tb05, tb10, tb11, tb12, tb13, tb14, tb15, tb20, tb21, tb22, tb23, tb24, tb25, tb30, tb31, tb32, tb33, tb34, tb35, tb40, tb41, tb42, tb43, tb44, tb45, tb50, tb51, tb52, tb53, tb54, tb55] <;> rfl
def lettersN : List UInt8 → Nat → Nat
  | [], x => x
  | c :: r, x => lettersN r (x ||| flN c)
theorem lettersN_lt : ∀ (L : List UInt8) (x : Nat), x < 64 → lettersN L x < 64
  | [], _, h => h
  | c :: r, _, h => lettersN_lt r _ (or_lt h (flN_lt c))
theorem lettersN_pos : ∀ (L : List UInt8) (x : Nat), (∀ c ∈ L, isFl c = true) → (x ≠ 0 ∨ L ≠ []) → lettersN L x ≠ 0
  | [], _, _, h => by rcases h with h | h; · exact h
                      exact absurd rfl h
  | c :: r, _, hL, _ => by
    refine lettersN_pos r _ (fun y hy => hL y (by simp [hy])) (.inl ?_)
    have hc : flN c ≠ 0 := by have := hL c (by simp); simpa [isFl] using this
    intro e
    exact hc (Nat.or_eq_zero_iff.1 e).2
theorem lettersS_gS (second : Bool) (x : Nat) : ∀ (L : List UInt8) (X : Nat), (∀ c ∈ L, isFl c = true) → lettersS second L (gS second x X) = some (gS second x (lettersN L X))
  | [], X, _ => rfl
  | c :: r, X, h => by
    have hc : flN c ≠ 0 := by have := h c (by simp); simpa [isFl] using this
    rw [lettersS, flagS_gS second x X c hc]
    exact lettersS_gS second x r _ (fun y hy => h y (by simp [hy]))
theorem lettersS_all (second : Bool) : ∀ (L : List UInt8) (g g' : Fg), lettersS second L g = some g' → ∀ c ∈ L, isFl c = true
  | [], _, _, _, c, hc => by simp at hc
  | a :: r, g, g', h, c, hc => by
    rw [lettersS] at h
    by_cases ha : flN a = 0
    · rw [flagS_none g a second ha] at h; simp at h
    · cases hf : flagS g a second with
      | none => rw [hf] at h; simp at h
      | some h' =>
        rw [hf] at h
        rcases List.mem_cons.1 hc with rfl | hc
        · simpa [isFl] using ha
        · exact lettersS_all second r h' g' h c hc
theorem fl_notDg (c : UInt8) (h : isFl c = true) : isDg c = false ∧ c ≠ 46 := by
  have hc : flN c ≠ 0 := by simpa [isFl] using h
  rcases flN_cases c with ⟨rfl, _⟩ | ⟨rfl, _⟩ | ⟨rfl, _⟩ | ⟨rfl, _⟩ | ⟨rfl, _⟩ | ⟨rfl, _⟩ | ⟨e, _⟩
  all_goals first | (exact absurd e hc) | exact ⟨rfl, by decide⟩
theorem dg_notFl (c : UInt8) (h : isDg c = true) : isFl c = false := by
  cases hf : isFl c with
  | false => rfl
  | true => rw [(fl_notDg c hf).1] at h; cases h
theorem dg_not46 (c : UInt8) (h : isDg c = true) : c ≠ 46 := by rintro rfl; simp [isDg] at h

theorem tw_mem (p : UInt8 → Bool) : ∀ (l : List UInt8) (c : UInt8), c ∈ l.takeWhile p → p c = true
  | [], c, h => by simp at h
  | a :: r, c, h => by
    rw [List.takeWhile_cons] at h
    split at h
    · rename_i ha
      rcases List.mem_cons.1 h with rfl | h
      · exact ha
      · exact tw_mem p r c h
    · simp at h
theorem tw_all (p : UInt8 → Bool) : ∀ (l : List UInt8), (∀ c ∈ l, p c = true) → l.takeWhile p = l
  | [], _ => rfl
  | a :: r, h => by rw [List.takeWhile_cons, if_pos (h a (by simp)), tw_all p r (fun c hc => h c (by simp [hc]))]
/-- Without the flags at its end. -/
def trimR (s : List UInt8) : List UInt8 := (s.reverse.dropWhile isFl).reverse
theorem trim_split (s : List UInt8) : ∃ L, s = trimR s ++ L ∧ ∀ c ∈ L, isFl c = true := by
  refine ⟨(s.reverse.takeWhile isFl).reverse, ?_, fun c hc => ?_⟩
  · unfold trimR
    rw [← List.reverse_append, List.takeWhile_append_dropWhile, List.reverse_reverse]
  · have := List.mem_reverse.1 hc
    exact tw_mem isFl _ c this
theorem dropWhile_all (p : UInt8 → Bool) : ∀ (a b : List UInt8), (∀ c ∈ a, p c = true) → (a ++ b).dropWhile p = b.dropWhile p
  | [], _, _ => rfl
  | x :: a, b, h => by
    rw [List.cons_append, List.dropWhile_cons, if_pos (h x (by simp))]
    exact dropWhile_all p a b (fun c hc => h c (by simp [hc]))
theorem trim_of (X L0 : List UInt8) (x : UInt8) (hx : isFl x = false) (hL : ∀ c ∈ L0, isFl c = true) : trimR (X ++ [x] ++ L0) = X ++ [x] := by
  unfold trimR
  rw [List.reverse_append, dropWhile_all isFl _ _ (fun c hc => hL c (List.mem_reverse.1 hc)), List.reverse_append, List.reverse_singleton, List.singleton_append, List.dropWhile_cons, if_neg (by rw [hx]; simp), List.reverse_cons, List.reverse_reverse]
theorem dg_last (D : List UInt8) (h0 : D ≠ []) (hD : ∀ c ∈ D, isDg c = true) : ∃ X x, D = X ++ [x] ∧ isFl x = false := by
  refine ⟨D.dropLast, D.getLast h0, (List.dropLast_concat_getLast h0).symm, dg_notFl _ (hD _ (List.getLast_mem h0))⟩
theorem rd_ok (most : Int) : ∀ (s : List UInt8) (n : Int), (rd 10 most s n).2 = true → ∀ c ∈ s, isDg c = true
  | [], _, _, c, hc => by simp at hc
  | a :: r, n, h, c, hc => by
    rw [rd] at h
    split at h
    · simp at h
    · rename_i hn
      rcases List.mem_cons.1 hc with rfl | hc
      · unfold isDg; simp; omega
      · exact rd_ok most r _ h c hc
theorem numT_ok (s : List UInt8) (h : (numT s).2 = true) : s ≠ [] ∧ ∀ c ∈ s, isDg c = true := by
  unfold numT rdAll at h
  split at h
  · simp at h
  · rename_i hn
    exact ⟨by rintro rfl; exact hn rfl, rd_ok _ s 0 h⟩
theorem dgs_app (A B : List UInt8) (hA : ∀ c ∈ A, isDg c = true) (hB : ∀ c, B.head? = some c → isDg c = false) : dgs (A ++ B) = A.length := by
  unfold dgs
  have : (A ++ B).takeWhile isDg = A := by
    induction A with
    | nil =>
      cases B with
      | nil => rfl
      | cons x r => rw [List.nil_append, List.takeWhile_cons, if_neg (by rw [hB x rfl]; simp)]
    | cons a A ih =>
      rw [List.cons_append, List.takeWhile_cons, if_pos (hA a (by simp)), ih (fun c hc => hA c (by simp [hc]))]
  rw [this]
theorem head_fl (L : List UInt8) (h : ∀ c ∈ L, isFl c = true) : ∀ c, L.head? = some c → isDg c = false ∧ c ≠ 46 := by
  intro c hc
  cases L with
  | nil => simp at hc
  | cons x r => simp at hc; subst hc; exact fl_notDg x (h x (by simp))

def not46 (c : UInt8) : Bool := decide (c ≠ 46)
/-- A place, as the landed code reads it: field, byte told or not, byte, flags, how many letters. -/
structure PL where
  (F : Nat)
  has : Bool
  (C X n : Nat)
def placeL (s : List UInt8) (least : Nat) : Option PL :=
  if (numT ((trimR s).takeWhile not46)).2 = false ∨ (numT ((trimR s).takeWhile not46)).1 < 1 then none
  else if (trimR s).dropWhile not46 = [] then some ⟨(numT ((trimR s).takeWhile not46)).1.toNat, false, least, lettersN (s.drop (trimR s).length) 0, (s.drop (trimR s).length).length⟩
  else if (numT (((trimR s).dropWhile not46).drop 1)).2 = false ∨ (numT (((trimR s).dropWhile not46).drop 1)).1 < (least : Int) then none
  else some ⟨(numT ((trimR s).takeWhile not46)).1.toNat, true, (numT (((trimR s).dropWhile not46).drop 1)).1.toNat, lettersN (s.drop (trimR s).length) 0, (s.drop (trimR s).length).length⟩
theorem cut_none (A : List UInt8) (h : ∀ c ∈ A, isDg c = true) : A.takeWhile not46 = A ∧ A.dropWhile not46 = [] := by
  have ht : A.takeWhile not46 = A := tw_all not46 A (fun c hc => by simpa [not46] using dg_not46 c (h c hc))
  refine ⟨ht, ?_⟩
  have := List.takeWhile_append_dropWhile (p := not46) (l := A)
  rw [ht] at this
  simpa using this
theorem cut_some (A B : List UInt8) (h : ∀ c ∈ A, isDg c = true) : (A ++ 46 :: B).takeWhile not46 = A ∧ (A ++ 46 :: B).dropWhile not46 = 46 :: B := by
  induction A with
  | nil => simp [not46]
  | cons a A ih =>
    have ha : not46 a = true := by simpa [not46] using dg_not46 a (h a (by simp))
    have := ih (fun c hc => h c (by simp [hc]))
    rw [List.cons_append, List.takeWhile_cons, if_pos ha, List.dropWhile_cons, if_pos ha, this.1, this.2]
    exact ⟨rfl, rfl⟩
theorem cut_shape (N : List UInt8) : N.dropWhile not46 = [] ∨ ∃ B, N.dropWhile not46 = 46 :: B := by
  cases h : N.dropWhile not46 with
  | nil => exact .inl rfl
  | cons x r =>
    have := List.head?_dropWhile_not not46 N
    rw [h] at this
    simp [not46] at this
    exact .inr ⟨r, by rw [this]⟩
def cS (q : PL) : Int := if q.has then (q.C : Int) else 0
theorem placeT_some {f : Int} {t : List UInt8} {g : Fg} {second : Bool} {r : Int × Int × Nat × Fg} (h : placeT f t g second = some r) : (∃ D L, t = 46 :: (D ++ L) ∧ (numT D).2 = true ∧ ∀ c ∈ L, isFl c = true) ∨ (t.head? ≠ some 46 ∧ ∀ c ∈ t, isFl c = true) := by
  unfold placeT at h
  split at h
  · rename_i hd
    simp only at h
    split at h
    · simp at h
    · rename_i hq
      left
      refine ⟨(t.drop 1).take (dgs (t.drop 1)), (t.drop 1).drop (dgs (t.drop 1)), ?_, ?_, ?_⟩
      · rw [List.take_append_drop]
        cases t with
        | nil => simp at hd
        | cons x r => simp at hd; subst hd; rfl
      · cases hh : (numT ((t.drop 1).take (dgs (t.drop 1)))).2 with
        | true => rfl
        | false => exact absurd (.inl hh) hq
      · cases hl : lettersS second ((t.drop 1).drop (dgs (t.drop 1))) g with
        | none => rw [hl] at h; simp at h
        | some g' => exact lettersS_all second _ _ _ hl
  · rename_i hd
    right
    refine ⟨hd, ?_⟩
    cases hl : lettersS second t g with
    | none => rw [hl] at h; simp at h
    | some g' => exact lettersS_all second _ _ _ hl
theorem placeS_L (s : List UInt8) (second : Bool) (x : Nat) : placeS s (gS second x 0) second = (placeL s (if second then 0 else 1)).map fun q => ((q.F : Int), cS q, q.n, gS second x q.X) := by
  obtain ⟨L, hs, hL⟩ := trim_split s
  have hdl : s.drop (trimR s).length = L := by
    have : (trimR s ++ L).drop (trimR s).length = L := List.drop_left
    rw [← hs] at this; exact this
  unfold placeL
  rw [hdl]
  generalize hN : trimR s = N at *
  by_cases hok : (numT (N.takeWhile not46)).2 = true
  · obtain ⟨hA0, hA⟩ := numT_ok _ hok
    have hva := numT_le (N.takeWhile not46)
    have hNe := List.takeWhile_append_dropWhile (p := not46) (l := N)
    generalize N.takeWhile not46 = A at *
    have hhead : ∀ c, (N.dropWhile not46 ++ L).head? = some c → isDg c = false := by
      intro c hc
      rcases cut_shape N with h | ⟨B, h⟩
      · rw [h, List.nil_append] at hc; exact (head_fl L hL c hc).1
      · rw [h, List.cons_append] at hc; simp at hc; subst hc; rfl
    have hsA : s = A ++ (N.dropWhile not46 ++ L) := by rw [← List.append_assoc, hNe]; exact hs
    have hdg : dgs s = A.length := by rw [hsA]; exact dgs_app A _ hA hhead
    have htk : s.take (dgs s) = A := by rw [hdg, hsA, List.take_left]
    have hdp : s.drop (dgs s) = N.dropWhile not46 ++ L := by rw [hdg]; conv => lhs; rw [hsA, List.drop_left]
    unfold placeS
    rw [htk, hdp]
    by_cases h1 : (numT A).1 < 1
    · rw [if_pos (.inr h1), if_pos (.inr h1)]; rfl
    · have hn1 : ¬ ((numT A).2 = false ∨ (numT A).1 < 1) := by rw [hok]; simp; omega
      rw [if_neg hn1, if_neg hn1]
      rcases cut_shape N with h | ⟨B, h⟩
      · rw [h, if_pos rfl, List.nil_append]
        unfold placeT
        have hh : ¬ L.head? = some 46 := fun e => (head_fl L hL 46 e).2 rfl
        rw [if_neg hh, lettersS_gS second x L 0 hL]
        simp only [Option.map_some, cS]
        rw [Int.toNat_of_nonneg hva.1]
        rfl
      · rw [h, if_neg (by simp), List.drop_succ_cons, List.drop_zero, List.cons_append]
        by_cases hb : (numT B).2 = true
        · obtain ⟨hB0, hB⟩ := numT_ok _ hb
          have hvb := numT_le B
          have hdg2 : dgs (B ++ L) = B.length := dgs_app B L hB (fun c hc => (head_fl L hL c hc).1)
          unfold placeT
          rw [if_pos (by rfl)]
          simp only [List.drop_succ_cons, List.drop_zero]
          rw [hdg2, List.take_left, List.drop_left, lettersS_gS second x L 0 hL]
          cases second with
          | false =>
            by_cases h2 : (numT B).1 < 1
            · rw [if_pos (.inr ⟨h2, rfl⟩), if_pos (.inr (by simpa using h2))]; rfl
            · rw [if_neg (by rw [hb]; simp; omega), if_neg (by rw [hb]; simp; omega)]
              simp only [Option.map_some, cS, if_true]
              rw [Int.toNat_of_nonneg hva.1, Int.toNat_of_nonneg hvb.1]
          | true =>
            rw [if_neg (by rw [hb]; simp), if_neg (by rw [hb]; simp; omega)]
            simp only [Option.map_some, cS, if_true]
            rw [Int.toNat_of_nonneg hva.1, Int.toNat_of_nonneg hvb.1]
        · have hbf : (numT B).2 = false := by simpa using hb
          rw [if_pos (.inl hbf)]
          cases hp : placeT (numT A).1 (46 :: (B ++ L)) (gS second x 0) second with
          | none => rfl
          | some r =>
            exfalso
            rcases placeT_some hp with ⟨D, L0, e, hd, hL0⟩ | ⟨e, _⟩
            · have e2 : B ++ L = D ++ L0 := by simpa using e
              obtain ⟨hD0, hD⟩ := numT_ok _ hd
              obtain ⟨X, z, rfl, hz⟩ := dg_last D hD0 hD
              have e3 : s = (A ++ 46 :: X) ++ [z] ++ L0 := by rw [hsA, h, List.cons_append, e2]; simp
              have e4 : N = (A ++ 46 :: X) ++ [z] := by rw [← hN, e3]; exact trim_of _ _ _ hz hL0
              have e5 : N = A ++ 46 :: B := by rw [← hNe, h]
              have e6 : B = X ++ [z] := by
                rw [e5] at e4
                simpa using e4
              rw [e6] at hbf
              rw [hbf] at hd
              cases hd
            · exact e rfl
  · have hof : (numT (N.takeWhile not46)).2 = false := by simpa using hok
    rw [if_pos (.inl hof)]
    unfold placeS
    split
    · rfl
    · rename_i hq
      cases hp : placeT (numT (s.take (dgs s))).1 (s.drop (dgs s)) (gS second x 0) second with
      | none => rfl
      | some r =>
        exfalso
        have hd : (numT (s.take (dgs s))).2 = true := by
          cases hh : (numT (s.take (dgs s))).2 with
          | true => rfl
          | false => exact absurd (.inl hh) hq
        obtain ⟨hD0, hD⟩ := numT_ok _ hd
        have hsd : s = s.take (dgs s) ++ s.drop (dgs s) := (List.take_append_drop _ _).symm
        generalize s.take (dgs s) = D at *
        generalize s.drop (dgs s) = t at *
        rcases placeT_some hp with ⟨D2, L0, e, hd2, hL0⟩ | ⟨_, hL0⟩
        · obtain ⟨hE0, hE⟩ := numT_ok _ hd2
          obtain ⟨X, z, rfl, hz⟩ := dg_last D2 hE0 hE
          have e3 : s = (D ++ 46 :: X) ++ [z] ++ L0 := by rw [hsd, e]; simp
          have e4 : N = (D ++ 46 :: X) ++ [z] := by rw [← hN, e3]; exact trim_of _ _ _ hz hL0
          have e5 : N = D ++ 46 :: (X ++ [z]) := by rw [e4]; simp
          rw [e5, (cut_some D _ hD).1, hd] at hof
          cases hof
        · obtain ⟨X, z, rfl, hz⟩ := dg_last D hD0 hD
          have e4 : N = X ++ [z] := by rw [← hN, hsd]; exact trim_of _ _ _ hz hL0
          rw [e4, (cut_none _ hD).1, hd] at hof
          cases hof
end Go.Proofs.YtdgnbcbcfgfkmaaDoor
