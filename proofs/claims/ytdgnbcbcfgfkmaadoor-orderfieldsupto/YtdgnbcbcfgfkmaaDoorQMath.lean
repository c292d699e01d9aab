/- Comparisons are orders. -/
import Derived.Test.YtdgnbcbcfgfkmaaDoorQSpec
namespace Go.Proofs.YtdgnbcbcfgfkmaaDoor

/-- Whichever way of any three. -/
structure Cm {α : Type} (c : α → α → Int) : Prop where
  rng : ∀ a b, c a b = -1 ∨ c a b = 0 ∨ c a b = 1
  anti : ∀ a b, c a b = -c b a
  tr : ∀ a b d, c a b ≤ 0 → c b d ≤ 0 → c a d ≤ 0
theorem Cm.zero {α : Type} : Cm (fun (_ _ : α) => (0 : Int)) := ⟨fun _ _ => by simp, fun _ _ => rfl, fun _ _ _ _ _ => by simp⟩
theorem Cm.pull {α β : Type} {c : β → β → Int} (h : Cm c) (f : α → β) : Cm (fun a b => c (f a) (f b)) := ⟨fun _ _ => h.rng _ _, fun _ _ => h.anti _ _, fun _ _ _ => h.tr _ _ _⟩
theorem Cm.flip {α : Type} {c : α → α → Int} (h : Cm c) (r : Bool) : Cm (fun a b => flip1 r (c a b)) := by
  cases r with
  | false => exact h
  | true =>
    refine ⟨fun a b => ?_, fun a b => ?_, fun a b d h1 h2 => ?_⟩
    · have := h.rng a b; simp only [flip1, if_true]; omega
    · have := h.anti a b; simp only [flip1, if_true]; omega
    · simp only [flip1, if_true] at *
      have e1 := h.anti a b
      have e2 := h.anti b d
      have e3 := h.anti a d
      have := h.tr d b a (by omega) (by omega)
      omega
theorem Cm.lt1 {α : Type} {c : α → α → Int} (h : Cm c) {a b d : α} (h1 : c a b < 0) (h2 : c b d ≤ 0) : c a d < 0 := by
  have h3 := h.tr a b d (by omega) h2
  have e := h.anti a d
  have e2 := h.anti a b
  by_cases h0 : c a d = 0
  · have := h.tr b d a h2 (by omega); omega
  · omega
theorem Cm.lt2 {α : Type} {c : α → α → Int} (h : Cm c) {a b d : α} (h1 : c a b ≤ 0) (h2 : c b d < 0) : c a d < 0 := by
  have h3 := h.tr a b d h1 (by omega)
  have e := h.anti a d
  have e2 := h.anti b d
  by_cases h0 : c a d = 0
  · have := h.tr d a b (by omega) h1; omega
  · omega
theorem Cm.lex {α : Type} {c d : α → α → Int} (h : Cm c) (k : Cm d) : Cm (lexC c d) := by
  refine ⟨fun a b => ?_, fun a b => ?_, fun a b e h1 h2 => ?_⟩
  · unfold lexC; split
    · exact k.rng a b
    · exact h.rng a b
  · have e1 := h.anti a b
    unfold lexC
    by_cases h0 : c a b = 0
    · rw [if_pos h0, if_pos (by omega)]; exact k.anti a b
    · rw [if_neg h0, if_neg (by omega)]; exact e1
  · unfold lexC at *
    by_cases h3 : c a b = 0
    · rw [if_pos h3] at h1
      by_cases h4 : c b e = 0
      · rw [if_pos h4] at h2
        have h5 := h.tr a b e (by omega) (by omega)
        have h6 := h.tr e b a (by have := h.anti b e; omega) (by have := h.anti a b; omega)
        have h7 := h.anti a e
        rw [if_pos (by omega)]
        exact k.tr a b e h1 h2
      · rw [if_neg h4] at h2
        have := h.lt2 (a := a) (b := b) (d := e) (by omega) (by omega)
        rw [if_neg (by omega)]; omega
    · rw [if_neg h3] at h1
      have h8 : c b e ≤ 0 := by
        by_cases h4 : c b e = 0
        · omega
        · rw [if_neg h4] at h2; exact h2
      have := h.lt1 (a := a) (b := b) (d := e) (by omega) h8
      rw [if_neg (by omega)]; omega
theorem Cm.same {α : Type} {c : α → α → Int} (h : Cm c) {a b d : α} (h1 : c a b = 0) (h2 : c b d = 0) : c a d = 0 := by
  have h3 := h.tr a b d (by omega) (by omega)
  have h4 := h.tr d b a (by have := h.anti b d; omega) (by have := h.anti a b; omega)
  have := h.anti a d
  omega

theorem cmpL_rng : ∀ a b, cmpL a b = -1 ∨ cmpL a b = 0 ∨ cmpL a b = 1
  | [], [] => by simp [cmpL]
  | [], _ :: _ => by simp [cmpL]
  | _ :: _, [] => by simp [cmpL]
  | x :: s, y :: t => by
    rw [cmpL]
    split
    · simp
    · split
      · simp
      · exact cmpL_rng s t
theorem cmpL_anti : ∀ a b, cmpL a b = -cmpL b a
  | [], [] => by simp [cmpL]
  | [], _ :: _ => by simp [cmpL]
  | _ :: _, [] => by simp [cmpL]
  | x :: s, y :: t => by
    rw [cmpL, cmpL]
    by_cases h1 : x.toNat < y.toNat
    · rw [if_pos h1, if_neg (by omega), if_pos h1]
    · by_cases h2 : y.toNat < x.toNat
      · rw [if_neg h1, if_pos h2, if_pos h2]; rfl
      · rw [if_neg h1, if_neg h2, if_neg h2, if_neg h1]; exact cmpL_anti s t
theorem cmpL_tr : ∀ a b d, cmpL a b ≤ 0 → cmpL b d ≤ 0 → cmpL a d ≤ 0
  | [], _, [], _, _ => by simp [cmpL]
  | [], _, _ :: _, _, _ => by simp [cmpL]
  | _ :: _, [], _, h, _ => by simp [cmpL] at h
  | _ :: _, _ :: _, [], _, h => by simp [cmpL] at h
  | x :: s, y :: t, z :: u, h1, h2 => by
    rw [cmpL] at h1 h2 ⊢
    by_cases a1 : x.toNat < z.toNat
    · rw [if_pos a1]; omega
    · rw [if_neg a1]
      by_cases b1 : x.toNat < y.toNat
      · rw [if_neg (by omega), if_pos (by omega)] at h2; omega
      · rw [if_neg b1] at h1
        by_cases b2 : y.toNat < x.toNat
        · rw [if_pos b2] at h1; omega
        · rw [if_neg b2] at h1
          by_cases c1 : y.toNat < z.toNat
          · omega
          · rw [if_neg c1] at h2
            by_cases c2 : z.toNat < y.toNat
            · rw [if_pos c2] at h2; omega
            · rw [if_neg c2] at h2
              rw [if_neg (by omega)]
              exact cmpL_tr s t u h1 h2
theorem cmpL_zero : ∀ a b, cmpL a b = 0 → a = b
  | [], [], _ => rfl
  | [], _ :: _, h => by simp [cmpL] at h
  | _ :: _, [], h => by simp [cmpL] at h
  | x :: s, y :: t, h => by
    rw [cmpL] at h
    by_cases h1 : x.toNat < y.toNat
    · rw [if_pos h1] at h; omega
    · rw [if_neg h1] at h
      by_cases h2 : y.toNat < x.toNat
      · rw [if_pos h2] at h; omega
      · rw [if_neg h2] at h
        rw [cmpL_zero s t h, UInt8.toNat_inj.1 (show x.toNat = y.toNat by omega)]
theorem cmpL_self : ∀ a, cmpL a a = 0
  | [] => rfl
  | x :: s => by rw [cmpL, if_neg (by omega), if_neg (by omega)]; exact cmpL_self s
theorem cm_cmpL : Cm cmpL := ⟨cmpL_rng, cmpL_anti, cmpL_tr⟩

/-- The sign of a number. -/
def sgI (n : Int) : Int := if n < 0 then -1 else if 0 < n then 1 else 0
theorem sgI_of {n : Int} (h : n = -1 ∨ n = 0 ∨ n = 1) : sgI n = n := by unfold sgI; rcases h with rfl | rfl | rfl <;> rfl
theorem cm_sub : Cm (fun (a b : Int) => sgI (a - b)) := by
  refine ⟨fun a b => ?_, fun a b => ?_, fun a b d h1 h2 => ?_⟩ <;> unfold sgI at *
  · split; · simp
    split <;> simp
  · by_cases h1 : a < b
    · rw [if_pos (by omega), if_neg (by omega), if_pos (by omega)]
    · by_cases h2 : b < a
      · rw [if_neg (by omega), if_pos (by omega), if_pos (by omega)]; rfl
      · rw [if_neg (by omega), if_neg (by omega), if_neg (by omega), if_neg (by omega)]; rfl
  · by_cases k1 : b < a
    · rw [if_neg (by omega), if_pos (by omega)] at h1; omega
    · by_cases k2 : d < b
      · rw [if_neg (by omega), if_pos (by omega)] at h2; omega
      · split
        · omega
        · rw [if_neg (by omega)]; omega

/-- What digits say. -/
def valD (s : List UInt8) : Nat := s.foldl (fun n c => n * 10 + (c.toNat - 48)) 0
def dg1 (c : UInt8) : Nat := c.toNat - 48
theorem foldl_val : ∀ (s : List UInt8) (n : Nat), s.foldl (fun n c => n * 10 + (c.toNat - 48)) n = n * 10 ^ s.length + valD s
  | [], n => by simp [valD]
  | c :: s, n => by
    have e : valD (c :: s) = (0 * 10 + (c.toNat - 48)) * 10 ^ s.length + valD s := by
      show (c :: s).foldl _ 0 = _
      rw [List.foldl_cons, foldl_val s]
    rw [List.foldl_cons, foldl_val s, e, List.length_cons, Nat.pow_succ]
    rw [Nat.zero_mul, Nat.zero_add, Nat.add_mul, Nat.mul_assoc, Nat.mul_comm 10, Nat.add_assoc]
theorem valD_cons (c : UInt8) (s : List UInt8) : valD (c :: s) = (c.toNat - 48) * 10 ^ s.length + valD s := by
  rw [valD, List.foldl_cons, foldl_val]; simp
theorem valD_lt : ∀ (s : List UInt8), (∀ c ∈ s, isDg c = true) → valD s < 10 ^ s.length
  | [], _ => by simp [valD]
  | c :: s, h => by
    rw [valD_cons, List.length_cons, Nat.pow_succ]
    have h1 := valD_lt s (fun x hx => h x (by simp [hx]))
    have h2 := h c (by simp)
    simp only [isDg, decide_eq_true_eq] at h2
    have : (c.toNat - 48) * 10 ^ s.length ≤ 9 * 10 ^ s.length := Nat.mul_le_mul_right _ (by omega)
    omega
theorem valD_ge (c : UInt8) (s : List UInt8) (h : isDg c = true) (h0 : c ≠ 48) : 10 ^ s.length ≤ valD (c :: s) := by
  rw [valD_cons]
  simp only [isDg, decide_eq_true_eq] at h
  have : c.toNat ≠ 48 := fun e => h0 (UInt8.toNat_inj.1 (by rw [e]; rfl))
  have : 1 * 10 ^ s.length ≤ (c.toNat - 48) * 10 ^ s.length := Nat.mul_le_mul_right _ (by omega)
  omega
theorem cmpL_val : ∀ (s t : List UInt8), s.length = t.length → (∀ c ∈ s, isDg c = true) → (∀ c ∈ t, isDg c = true) → cmpL s t = sgI ((valD s : Int) - valD t)
  | [], [], _, _, _ => rfl
  | x :: s, y :: t, h, h1, h2 => by
    have hl : s.length = t.length := by simpa using h
    have i1 := valD_lt s (fun c hc => h1 c (by simp [hc]))
    have i2 := valD_lt t (fun c hc => h2 c (by simp [hc]))
    have ih := cmpL_val s t hl (fun c hc => h1 c (by simp [hc])) (fun c hc => h2 c (by simp [hc]))
    have d1 := h1 x (by simp)
    have d2 := h2 y (by simp)
    simp only [isDg, decide_eq_true_eq] at d1 d2
    rw [cmpL, valD_cons, valD_cons, hl]
    rw [hl] at i1
    generalize 10 ^ t.length = p at *
    generalize valD s = a at *
    generalize valD t = b at *
    by_cases k1 : x.toNat < y.toNat
    · rw [if_pos k1]
      have : (x.toNat - 48) * p + p ≤ (y.toNat - 48) * p := by
        rw [← Nat.succ_mul]; exact Nat.mul_le_mul_right _ (by omega)
      unfold sgI; rw [if_pos (by omega)]
    · rw [if_neg k1]
      by_cases k2 : y.toNat < x.toNat
      · rw [if_pos k2]
        have : (y.toNat - 48) * p + p ≤ (x.toNat - 48) * p := by
          rw [← Nat.succ_mul]; exact Nat.mul_le_mul_right _ (by omega)
        unfold sgI; rw [if_neg (by omega), if_pos (by omega)]
      · rw [if_neg k2, ih, show x.toNat = y.toNat by omega]
        unfold sgI
        have : ((((y.toNat - 48) * p + a : Nat) : Int) - ((y.toNat - 48) * p + b : Nat)) = (a : Int) - b := by omega
        rw [this]
/-- Digits without noughts ahead. -/
def Slim (s : List UInt8) : Prop := (∀ c ∈ s, isDg c = true) ∧ s.head? ≠ some 48
theorem cmpD_val (s t : List UInt8) (h1 : Slim s) (h2 : Slim t) : cmpD s t = sgI ((valD s : Int) - valD t) := by
  unfold cmpD
  have aux : ∀ (a b : List UInt8), Slim a → Slim b → a.length < b.length → valD a < valD b := by
    intro a b ha hb hl
    cases b with
    | nil => simp at hl
    | cons y b =>
      have e1 := valD_lt a ha.1
      have e2 := valD_ge y b (hb.1 y (by simp)) (fun e => hb.2 (by simp [e]))
      have : 10 ^ a.length ≤ 10 ^ b.length := Nat.pow_le_pow_right (by omega) (by simp at hl; omega)
      omega
  by_cases k1 : s.length < t.length
  · have := aux s t h1 h2 k1
    rw [if_pos k1]; unfold sgI; rw [if_pos (by omega)]
  · rw [if_neg k1]
    by_cases k2 : t.length < s.length
    · have := aux t s h2 h1 k2
      rw [if_pos k2]; unfold sgI; rw [if_neg (by omega), if_pos (by omega)]
    · rw [if_neg k2]; exact cmpL_val s t (by omega) h1.1 h2.1

theorem head_dropWhile {α : Type} (p : α → Bool) : ∀ (l : List α) (x : α), (l.dropWhile p).head? = some x → p x = false
  | [], x, h => by simp at h
  | a :: l, x, h => by
    rw [List.dropWhile_cons] at h
    by_cases ha : p a = true
    · rw [if_pos ha] at h; exact head_dropWhile p l x h
    · rw [if_neg ha] at h; simp at h; subst h; simpa using ha
theorem mem_takeWhile {α : Type} (p : α → Bool) : ∀ (l : List α) (x : α), x ∈ l.takeWhile p → p x = true
  | [], x, h => by simp at h
  | a :: l, x, h => by
    rw [List.takeWhile_cons] at h
    by_cases ha : p a = true
    · rw [if_pos ha] at h
      rcases List.mem_cons.1 h with rfl | h
      · exact ha
      · exact mem_takeWhile p l x h
    · rw [if_neg ha] at h; simp at h
theorem head_takeWhile {α : Type} (p : α → Bool) (l : List α) (x : α) (h : (l.takeWhile p).head? = some x) : l.head? = some x := by
  cases l with
  | nil => simp at h
  | cons a l =>
    rw [List.takeWhile_cons] at h
    by_cases ha : p a = true
    · rw [if_pos ha] at h; simpa using h
    · rw [if_neg ha] at h; simp at h
theorem numD_slim (s : List UInt8) : Slim (numD s) := by
  refine ⟨fun c hc => mem_takeWhile _ _ _ hc, fun h => ?_⟩
  have := head_dropWhile is0 _ _ (head_takeWhile _ _ _ h)
  simp [is0] at this
/-- What a number says. -/
def valS (s : List UInt8) : Int := if numN s then -(valD (numD s) : Int) else valD (numD s)
theorem numsS_val (a b : List UInt8) : numsS a b = sgI (valS a - valS b) := by
  have aux : ∀ s, numN s = true → 0 < valD (numD s) := fun s h => by
    have hl := numD_slim s
    unfold numN at h
    cases hd : numD s with
    | nil => rw [hd] at h; simp at h
    | cons y t =>
      rw [hd] at hl
      have := valD_ge y t (hl.1 y (by simp)) (fun e => hl.2 (by simp [e]))
      have : 0 < 10 ^ t.length := Nat.pow_pos (by omega)
      omega
  unfold numsS valS
  rw [cmpD_val _ _ (numD_slim a) (numD_slim b)]
  cases ha : numN a <;> cases hb : numN b <;> simp
  · have := aux b hb; unfold sgI; rw [if_neg (by omega), if_pos (by omega)]
  · have := aux a ha; unfold sgI; rw [if_pos (by omega)]
  · unfold sgI
    generalize (valD (numD a) : Int) = x
    generalize (valD (numD b) : Int) = y
    by_cases h1 : x < y
    · rw [if_pos (by omega), if_neg (by omega), if_pos (by omega)]; rfl
    · by_cases h2 : y < x
      · rw [if_neg (by omega), if_pos (by omega), if_pos (by omega)]
      · rw [if_neg (by omega), if_neg (by omega), if_neg (by omega), if_neg (by omega)]; rfl
theorem cm_nums : Cm numsS := by
  have h := cm_sub.pull valS
  have e : (fun a b => sgI (valS a - valS b)) = numsS := by funext a b; exact (numsS_val a b).symm
  exact e ▸ h
theorem cm_key (sep : Option UInt8) (k : Ky) : Cm (keyCmp sep k) := by
  unfold keyCmp
  refine Cm.flip (c := fun a b => if k.fl.n then numsS (pieceS sep a k) (pieceS sep b k) else cmpL (keptS k.fl (pieceS sep a k)) (keptS k.fl (pieceS sep b k))) ?_ k.fl.r
  cases k.fl.n with
  | true => exact cm_nums.pull (fun a => pieceS sep a k)
  | false => exact cm_cmpL.pull (fun a => keptS k.fl (pieceS sep a k))
theorem cm_byKeys (sep : Option UInt8) : ∀ ks, Cm (byKeys sep ks)
  | [] => Cm.zero
  | k :: ks => (cm_key sep k).lex (cm_byKeys sep ks)
theorem Od.cmK (o : Od) : Cm o.keysC := cm_byKeys _ _
theorem Od.cmC (o : Od) : Cm o.cmp := o.cmK.lex (cm_cmpL.flip o.fl.r)
theorem byKeys_self (sep : Option UInt8) : ∀ ks a, byKeys sep ks a a = 0 := fun ks a => by
  have := (cm_byKeys sep ks).anti a a; omega
theorem Od.cmp_zero (o : Od) (a b : List UInt8) : o.cmp a b = 0 ↔ a = b := by
  constructor
  · intro h
    unfold Od.cmp lexC at h
    split at h
    · refine cmpL_zero _ _ ?_
      simp only [flip1] at h; split at h <;> omega
    · rename_i h2; exact absurd h h2
  · rintro rfl; have := o.cmC.anti a a; omega
theorem Od.cmp_of (o : Od) (a b : List UInt8) (h : o.keysC a b ≠ 0) : o.cmp a b = o.keysC a b := by
  unfold Od.cmp lexC; rw [if_neg h]
/-- All that is asked of any three lines. -/
theorem Od.orders (o : Od) (a b c : List UInt8) :
    o.cmp a b = -o.cmp b a ∧ (o.cmp a b = 0 ↔ a = b) ∧ (o.keysC a b ≠ 0 → o.keysC a b = o.cmp a b) ∧ ¬ (o.cmp a b ≤ 0 ∧ o.cmp b c ≤ 0 ∧ 0 < o.cmp a c) ∧ ¬ (o.keysC a b ≤ 0 ∧ o.keysC b c ≤ 0 ∧ 0 < o.keysC a c) ∧ ¬ (o.keysC a b = 0 ∧ o.keysC b c = 0 ∧ o.keysC a c ≠ 0) :=
  ⟨o.cmC.anti a b, o.cmp_zero a b, fun h => (o.cmp_of a b h).symm, fun h => by have := o.cmC.tr a b c h.1 h.2.1; omega, fun h => by have := o.cmK.tr a b c h.1 h.2.1; omega, fun h => h.2.2 (o.cmK.same h.1 h.2.1)⟩
end Go.Proofs.YtdgnbcbcfgfkmaaDoor
