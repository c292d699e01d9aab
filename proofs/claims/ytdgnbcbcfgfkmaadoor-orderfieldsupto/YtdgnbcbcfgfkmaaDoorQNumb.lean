/- Lines that are numbers, and lines of fields. -/
import Derived.Test.YtdgnbcbcfgfkmaaDoorQMath
namespace Go.Proofs.YtdgnbcbcfgfkmaaDoor

/-- A number's digits, ahead of others. -/
def decN : Nat → Nat → List UInt8 → List UInt8
  | 0, _, acc => acc
  | f + 1, n, acc => if n < 10 then UInt8.ofNat (48 + n) :: acc else decN f (n / 10) (UInt8.ofNat (48 + n % 10) :: acc)
def decS (n : Nat) : List UInt8 := decN 11 n []
theorem dig_nat (d : Nat) (h : d < 10) : (UInt8.ofNat (48 + d)).toNat = 48 + d := by simp; omega
theorem dig_isDg (d : Nat) (h : d < 10) : isDg (UInt8.ofNat (48 + d)) = true := by unfold isDg; rw [dig_nat d h]; simp; omega
theorem decN_val : ∀ (f n : Nat) (acc : List UInt8), n < 10 ^ f → 0 < f → valD (decN f n acc) = n * 10 ^ acc.length + valD acc
  | 0, _, _, _, h => by omega
  | f + 1, n, acc, h, _ => by
    rw [decN]
    by_cases hn : n < 10
    · rw [if_pos hn, valD_cons, dig_nat n hn]; simp
    · rw [if_neg hn, decN_val f (n / 10) _ (by rw [Nat.pow_succ] at h; omega) (by cases f with | zero => simp at h; omega | succ f => omega), valD_cons, dig_nat _ (by omega), List.length_cons, Nat.pow_succ, ← Nat.add_assoc]
      congr 1
      have e : n = n / 10 * 10 + n % 10 := by omega
      have e2 : n * 10 ^ acc.length = (n / 10 * 10 + n % 10) * 10 ^ acc.length := by rw [← e]
      rw [e2, Nat.add_mul, Nat.mul_assoc, Nat.mul_comm 10]
      congr 2; omega
theorem decN_dg : ∀ (f n : Nat) (acc : List UInt8), (∀ c ∈ acc, isDg c = true) → ∀ c ∈ decN f n acc, isDg c = true
  | 0, _, acc, h => by simpa [decN] using h
  | f + 1, n, acc, h => by
    rw [decN]
    split
    · rename_i hn
      intro c hc
      rcases List.mem_cons.1 hc with rfl | hc
      · exact dig_isDg n hn
      · exact h c hc
    · refine decN_dg f _ _ fun c hc => ?_
      rcases List.mem_cons.1 hc with rfl | hc
      · exact dig_isDg _ (by omega)
      · exact h c hc
theorem decN_ne : ∀ (f n : Nat) (acc : List UInt8), (0 < f ∨ acc ≠ []) → decN f n acc ≠ []
  | 0, _, acc, h => by rw [decN]; exact h.elim (fun h => by omega) id
  | f + 1, n, acc, _ => by
    rw [decN]
    split
    · simp
    · exact decN_ne f _ _ (.inr (by simp))
/-- A number that is written, with noughts and blanks ahead. -/
def wrtS (a : Int) (z b : Nat) : List UInt8 := List.replicate b 32 ++ ((if a < 0 then [45] else []) ++ (List.replicate z 48 ++ decS a.natAbs))
theorem dropWhile_rep {α : Type} (p : α → Bool) (x : α) (hx : p x = true) : ∀ (n : Nat) (l : List α), (List.replicate n x ++ l).dropWhile p = l.dropWhile p
  | 0, l => rfl
  | n + 1, l => by rw [List.replicate_succ, List.cons_append, List.dropWhile_cons, if_pos hx]; exact dropWhile_rep p x hx n l
theorem takeWhile_all {α : Type} (p : α → Bool) : ∀ (l : List α), (∀ x ∈ l, p x = true) → l.takeWhile p = l
  | [], _ => rfl
  | a :: l, h => by rw [List.takeWhile_cons, if_pos (h a (by simp)), takeWhile_all p l (fun x hx => h x (by simp [hx]))]
theorem mem_dropWhile {α : Type} (p : α → Bool) : ∀ (l : List α) (x : α), x ∈ l.dropWhile p → x ∈ l
  | [], x, h => by simp at h
  | a :: l, x, h => by
    rw [List.dropWhile_cons] at h
    split at h
    · exact List.mem_cons_of_mem _ (mem_dropWhile p l x h)
    · exact h
theorem valD_drop0 : ∀ (l : List UInt8), valD (l.dropWhile is0) = valD l
  | [] => rfl
  | c :: l => by
    rw [List.dropWhile_cons]
    split
    · rename_i h
      simp only [is0, decide_eq_true_eq] at h
      rw [valD_drop0 l, valD_cons, h]; simp
    · rfl
theorem dec_head (z n : Nat) : ∃ c l, List.replicate z 48 ++ decS n = c :: l ∧ isDg c = true := by
  cases h : List.replicate z (48 : UInt8) ++ decS n with
  | nil =>
    rw [List.append_eq_nil_iff] at h
    exact absurd h.2 (decN_ne 11 n [] (.inl (by omega)))
  | cons c l =>
    refine ⟨c, l, rfl, ?_⟩
    have hm : c ∈ List.replicate z (48 : UInt8) ++ decS n := by rw [h]; simp
    rcases List.mem_append.1 hm with hm | hm
    · rw [List.eq_of_mem_replicate hm]; rfl
    · exact decN_dg 11 n [] (by simp) c hm
theorem dg_not {c : UInt8} (h : isDg c = true) : isBl c = false ∧ c ≠ 45 := by
  simp only [isDg, decide_eq_true_eq] at h
  refine ⟨?_, ?_⟩
  · simp only [isBl, decide_eq_false_iff_not]
    rintro (rfl | rfl) <;> simp at h
  · rintro rfl; simp at h
theorem wrt_core (a : Int) (z b : Nat) : (wrtS a z b).dropWhile isBl = (if a < 0 then [45] else []) ++ (List.replicate z 48 ++ decS a.natAbs) := by
  unfold wrtS
  rw [dropWhile_rep isBl 32 rfl]
  by_cases h : a < 0
  · rw [if_pos h]; rfl
  · rw [if_neg h, List.nil_append]
    obtain ⟨c, l, e, hc⟩ := dec_head z a.natAbs
    rw [e, List.dropWhile_cons, if_neg (by rw [(dg_not hc).1]; simp)]
theorem wrt_numD (a : Int) (z b : Nat) : numD (wrtS a z b) = (List.replicate z 48 ++ decS a.natAbs).dropWhile is0 := by
  unfold numD
  rw [wrt_core]
  have hu : unminus ((if a < 0 then [45] else []) ++ (List.replicate z 48 ++ decS a.natAbs)) = List.replicate z 48 ++ decS a.natAbs := by
    by_cases h : a < 0
    · rw [if_pos h]; simp [unminus]
    · rw [if_neg h, List.nil_append]
      obtain ⟨c, l, e, hc⟩ := dec_head z a.natAbs
      rw [e]; unfold unminus
      rw [if_neg (by simp; exact (dg_not hc).2)]
  rw [hu]
  refine takeWhile_all _ _ fun x hx => ?_
  have hm := mem_dropWhile _ _ _ hx
  rcases List.mem_append.1 hm with hm | hm
  · rw [List.eq_of_mem_replicate hm]; rfl
  · exact decN_dg 11 _ [] (by simp) x hm
theorem wrt_val (a : Int) (z b : Nat) (h : a.natAbs ≤ 1000000000) : valS (wrtS a z b) = a := by
  have hv : valD (numD (wrtS a z b)) = a.natAbs := by
    rw [wrt_numD, valD_drop0]
    have : ∀ n l, valD (List.replicate n 48 ++ l) = valD l := by
      intro n l
      induction n with
      | zero => rfl
      | succ n ih => rw [List.replicate_succ, List.cons_append, valD_cons, ih]; simp
    rw [this, decS, decN_val 11 _ _ (by omega) (by omega)]
    simp [valD]
  unfold valS
  rw [hv]
  by_cases hn : a < 0
  · have : numN (wrtS a z b) = true := by
      unfold numN
      rw [wrt_core, if_pos hn]
      cases hd : numD (wrtS a z b) with
      | nil => rw [hd] at hv; simp [valD] at hv; omega
      | cons x l => simp
    rw [if_pos this]; omega
  · have : numN (wrtS a z b) = false := by
      unfold numN
      rw [wrt_core, if_neg hn, List.nil_append]
      obtain ⟨c, l, e, hc⟩ := dec_head z a.natAbs
      rw [e]
      have := (dg_not hc).2
      simp [this]
    rw [this]; simp; omega
theorem wrt_ne (a : Int) (z b : Nat) : wrtS a z b ≠ [] := by
  intro h
  unfold wrtS at h
  obtain ⟨c, l, e, _⟩ := dec_head z a.natAbs
  rw [e] at h
  simp at h
/-- The one key without a byte between fields: the whole line. -/
theorem piece_one (g : Fg) (hb : g.b = false) (s : List UInt8) (hs : s ≠ []) : pieceS none s (oneKey g) = s := by
  cases s with
  | nil => exact absurd rfl hs
  | cons x r =>
    have hf : fieldsS none (x :: r) = (0, 0 + fldLen (x :: r)) :: fldsB r.length ((x :: r).drop (fldLen (x :: r))) (0 + fldLen (x :: r)) := by
      simp only [fieldsS]
      rw [if_neg (by simp), List.length_cons, fldsB]
    unfold pieceS fromS toS
    rw [hf]
    simp [oneKey, hb]
def gN : Fg := ⟨false, false, false, false, false, true, false⟩
theorem numbers_math (a b : Int) (z n : Nat) (ha : a.natAbs ≤ 1000000000) (hb : b.natAbs ≤ 1000000000) (o : Od) (ho : o = ⟨gN, none, [oneKey gN]⟩) : o.keysC (wrtS a z n) (wrtS b 0 0) = sgI (a - b) := by
  subst ho
  simp only [Od.keysC, byKeys, lexC, keyCmp]
  rw [show (oneKey gN).fl = gN from rfl, piece_one gN rfl _ (wrt_ne _ _ _), piece_one gN rfl _ (wrt_ne _ _ _)]
  simp only [gN, flip1, if_true, Bool.false_eq_true, if_false]
  rw [numsS_val, wrt_val a z n ha, wrt_val b 0 0 hb]
  split <;> simp_all

/-- Fields with a byte between them. -/
def joinS (c : UInt8) : List (List UInt8) → List UInt8
  | [] => []
  | f :: fs => f ++ fs.flatMap (fun g => c :: g)
theorem fldsC_free (c : UInt8) : ∀ (f r : List UInt8) (b i : Nat), c ∉ f → fldsC c (f ++ r) b i = fldsC c r b (i + f.length)
  | [], r, b, i, _ => by simp
  | x :: f, r, b, i, h => by
    rw [List.cons_append, fldsC, if_neg (fun e => h (by simp [e])), fldsC_free c f r b (i + 1) (fun hm => h (by simp [hm])), List.length_cons]
    congr 1; omega
theorem fldsC_nth (c : UInt8) : ∀ (l : List (List UInt8)) (n : Nat) (s0 : List UInt8) (g : List UInt8), (∀ f ∈ l, c ∉ f) → l[n]? = some g → ∃ st, (fldsC c (joinS c l) s0.length s0.length)[n]? = some (st, st + g.length) ∧ ((s0 ++ joinS c l).take (st + g.length)).drop st = g
  | [], n, s0, g, _, h => by simp at h
  | f :: fs, n, s0, g, hf, h => by
    have h0 := hf f (by simp)
    rw [joinS, fldsC_free c f _ _ _ h0]
    cases n with
    | zero =>
      simp at h
      subst h
      refine ⟨s0.length, ?_, ?_⟩
      · cases fs with
        | nil => simp [fldsC]
        | cons g gs => simp [fldsC]
      · rw [List.take_append, List.take_of_length_le (by omega), Nat.add_sub_cancel_left, List.take_append, List.take_of_length_le (by omega)]
        simp
    | succ n =>
      simp at h
      cases fs with
      | nil => simp at h
      | cons g2 gs =>
        have ih := fldsC_nth c (g2 :: gs) n (s0 ++ f ++ [c]) g (fun x hx => hf x (by simp at hx ⊢; exact .inr hx)) h
        obtain ⟨st, h1, h2⟩ := ih
        refine ⟨st, ?_, ?_⟩
        · have e : (s0 ++ f ++ [c]).length = s0.length + f.length + 1 := by simp; omega
          rw [e] at h1
          rw [List.flatMap_cons, List.cons_append, fldsC, if_pos rfl, List.getElem?_cons_succ]
          exact h1
        · rw [List.flatMap_cons, List.cons_append]
          rw [joinS] at h2
          rw [show s0 ++ (f ++ c :: (g2 ++ gs.flatMap fun g => c :: g)) = s0 ++ f ++ [c] ++ (g2 ++ gs.flatMap fun g => c :: g) from by simp]
          exact h2
theorem kept0 (s : List UInt8) : keptS fg0 s = s := by
  unfold keptS
  have h1 : counts1 fg0 = fun _ => true := by funext c; rfl
  have h2 : upS fg0 = id := by funext c; rfl
  rw [h1, h2, List.filter_eq_self.2 (by simp), List.map_id]
theorem fields_math (a b : List (List UInt8)) (n : Nat) (sep : UInt8) (x y : List UInt8) (ha : ∀ f ∈ a, sep ∉ f) (hb : ∀ f ∈ b, sep ∉ f) (hx : a[n]? = some x) (hy : b[n]? = some y) (o : Od) (ho : o = ⟨fg0, some sep, [⟨(n : Int) + 1, 0, (n : Int) + 1, 0, fg0⟩]⟩) : o.keysC (joinS sep a) (joinS sep b) = cmpL x y := by
  subst ho
  have hp : ∀ (l : List (List UInt8)) (z : List UInt8), (∀ f ∈ l, sep ∉ f) → l[n]? = some z → pieceS (some sep) (joinS sep l) ⟨(n : Int) + 1, 0, (n : Int) + 1, 0, fg0⟩ = z := by
    intro l z hl hz
    obtain ⟨st, h1, h2⟩ := fldsC_nth sep l n [] z hl hz
    have e : ((n : Int) + 1 - 1).toNat = n := by omega
    unfold pieceS fromS toS
    simp only [fieldsS]
    rw [if_neg (by omega), e]
    simp only [List.length_nil] at h1
    rw [h1]
    simpa [fg0] using h2
  simp only [Od.keysC, byKeys, lexC, keyCmp]
  rw [hp a x ha hx, hp b y hb hy, kept0, kept0]
  simp only [fg0, flip1, Bool.false_eq_true, if_false]
  split <;> simp_all
theorem keyDD : ∀ n : Nat, n ≤ 8 → keyS [UInt8.ofNat (49 + n), 44, UInt8.ofNat (49 + n)] fg0 = some ⟨(n : Int) + 1, 0, (n : Int) + 1, 0, fg0⟩ := by
  intro n hn
  have : n = 0 ∨ n = 1 ∨ n = 2 ∨ n = 3 ∨ n = 4 ∨ n = 5 ∨ n = 6 ∨ n = 7 ∨ n = 8 := by omega
  rcases this with rfl | rfl | rfl | rfl | rfl | rfl | rfl | rfl | rfl <;> rfl
end Go.Proofs.YtdgnbcbcfgfkmaaDoor
