/- The laws' classes; strings put together. -/
import Derived.Test.YtlekfdkahlobiaaGreatJLaw1
import Derived.Test.YtlekfdkahlobiaaGreatGLoc
import Derived.Test.YtlekfdkahlobiaaGreatHBuild
namespace Go.Proofs.YtlekfdkahlobiaaGreat.Re
open Go.Proofs.YtlekfdkahlobiaaGreat.Tr
open Go.RowKit

theorem c8at (s : ByteArray) (k : Nat) (h : k < s.size) : s.data.toList[k]? = some s[k] := by
  rw [List.getElem?_eq_getElem (by simpa using h)]; rfl
theorem c8y {a c : UInt8} (m : Int) (hm : (c.toNat : Int) = m) (h : a = c) : ((a.toNat : Int) == m) = true ∧ (a.toNat : Int) = m := by
  subst h; subst hm; exact ⟨by simp, rfl⟩
theorem c8n {a c : UInt8} (m : Int) (hm : (c.toNat : Int) = m) (h : a ≠ c) : ((a.toNat : Int) == m) = false ∧ ¬ (a.toNat : Int) = m := by
  have e : ¬ (a.toNat : Int) = m := fun e => h (UInt8.toNat_inj.1 (by omega))
  exact ⟨by rw [beq_eq_false_iff_ne]; exact e, e⟩
def ClsOut (s : List UInt8) (w : World) (e : Ending) (w' : World) : Prop := ∃ b, e = .returned (.bool b) ∧ (b = false → noCls s) ∧ w' = w
set_option maxHeartbeats 4000000 in
set_option maxRecDepth 100000 in
theorem classes_c (s : ByteArray) (w : World) (hs : s.size ≤ 1048576) :
    Calls Tryz.prog 9 #[.string s] w (ClsOut s.data.toList w) := by
  go_enter Tryz.func9, Tryz.ntmps9
  go_wp2_with fail
  go_loop [3] (fun vi => ∃ k : Nat, k ≤ s.size ∧ vi = .int .i64 k ∧ Hid (∀ i : Nat, i < k → s.data.toList[i]? = some 91 → s.data.toList[i + 1]? ≠ some 58 ∧ s.data.toList[i + 1]? ≠ some 46 ∧ s.data.toList[i + 1]? ≠ some 61)) (fun vi => s.size - (intOf vi).toNat)
  case atStart => exact ⟨0, by omega, rfl, (show ∀ i : Nat, i < 0 → _ from fun i hi => by omega)⟩
  case round =>
    obtain ⟨k, hk, rfl, HI⟩ := hrel
    by_cases hlt : k + 1 < s.size
    · have g0 : (k : Int) + 1 < (s.size : Int) := by omega
      have HK : Hid (∀ P : Prop, (s[k] = 91 → s[k + 1] ≠ 58 ∧ s[k + 1] ≠ 46 ∧ s[k + 1] ≠ 61) → ∀ i : Nat, i < k + 1 → s.data.toList[i]? = some 91 → s.data.toList[i + 1]? ≠ some 58 ∧ s.data.toList[i + 1]? ≠ some 46 ∧ s.data.toList[i + 1]? ≠ some 61) := by
        intro _ h i hi h1
        by_cases hik : i < k
        · exact HI.out i hik h1
        · obtain rfl : i = k := by omega
          rw [c8at s i (by omega)] at h1
          rw [c8at s (i + 1) hlt]
          have := h (Option.some.inj h1)
          exact ⟨fun e => this.1 (Option.some.inj e), fun e => this.2.1 (Option.some.inj e), fun e => this.2.2 (Option.some.inj e)⟩
      by_cases h1 : s[k] = 91
      · obtain ⟨e1, f1⟩ := c8y 91 rfl h1
        by_cases h2 : s[k + 1] = 58
        · obtain ⟨e2, f2⟩ := c8y 58 rfl h2
          clear h1 h2
          go_wp2_with fail
          go_ret
          exact ⟨true, rfl, (fun h => by cases h), rfl⟩
        obtain ⟨e2, f2⟩ := c8n 58 rfl h2
        by_cases h3 : s[k + 1] = 46
        · obtain ⟨e3, f3⟩ := c8y 46 rfl h3
          clear h1 h2 h3
          go_wp2_with fail
          go_ret
          exact ⟨true, rfl, (fun h => by cases h), rfl⟩
        obtain ⟨e3, f3⟩ := c8n 46 rfl h3
        by_cases h4 : s[k + 1] = 61
        · obtain ⟨e4, f4⟩ := c8y 61 rfl h4
          clear h1 h2 h3 h4
          go_wp2_with fail
          go_ret
          exact ⟨true, rfl, (fun h => by cases h), rfl⟩
        obtain ⟨e4, f4⟩ := c8n 61 rfl h4
        have HN := Lib.hid (HK.out True fun _ => ⟨h2, h3, h4⟩)
        clear h1 h2 h3 h4 HK HI
        go_wp2_with fail
        exact ⟨⟨k + 1, by omega, by go_num, HN⟩, by simp [intOf]; omega⟩
      · obtain ⟨e1, f1⟩ := c8n 91 rfl h1
        have HN := Lib.hid (HK.out True fun h => absurd h h1)
        clear h1 HK HI
        go_wp2_with fail
        exact ⟨⟨k + 1, by omega, by go_num, HN⟩, by simp [intOf]; omega⟩
    · have g0 : ¬ (k : Int) + 1 < (s.size : Int) := by omega
      have HN : Hid (noCls s.data.toList) := by
        intro i h1
        have hi := lt_of_some h1
        by_cases hik : i < k
        · exact HI.out i hik h1
        · have hi2 : i < s.size := hi
          have e : s.data.toList[i + 1]? = none := List.getElem?_eq_none (show s.size ≤ i + 1 by omega)
          rw [e]
          exact ⟨by simp, by simp, by simp⟩
      clear HI
      go_wp2_with fail
      go_ret
      exact ⟨false, rfl, fun _ => HN.out, rfl⟩

theorem datj_app (a b : ByteArray) : (a ++ b).data.toList = a.data.toList ++ b.data.toList := by
  rw [ByteArray.data_append, Array.toList_append]
abbrev strJ (p q : ByteArray) : ByteArray := ⟨#[40]⟩ ++ p ++ ⟨#[41, 124, 40]⟩ ++ q ++ ⟨#[41]⟩
theorem strJ_list (p q : ByteArray) : (strJ p q).data.toList = 40 :: (p.data.toList ++ 41 :: 124 :: 40 :: (q.data.toList ++ [41])) := by
  simp only [strJ, datj_app]; simp
theorem baj_size (a : ByteArray) : a.size = a.data.toList.length := rfl
theorem strJ_size (p q : ByteArray) : (strJ p q).size = p.size + q.size + 5 := by
  rw [baj_size, strJ_list, baj_size p, baj_size q]; simp only [List.length_cons, List.length_append, List.length_nil]; omega
end Go.Proofs.YtlekfdkahlobiaaGreat.Re

namespace Go.Proofs.YtlekfdkahlobiaaGreat.Re
open Go.Proofs.YtlekfdkahlobiaaGreat.Tr

theorem pow_add {a b u v : Nat} (ha : 1 ≤ a) (hb : 1 ≤ b) (hu : u ≤ 4 ^ (a - 1)) (hv : v ≤ 4 ^ (b - 1)) : u + v + 1 ≤ 4 ^ (a + b - 1) := by
  have e : a + b - 1 = (a - 1) + (b - 1) + 1 := by omega
  rw [e, Nat.pow_succ, Nat.pow_add]
  have h1 : 1 ≤ 4 ^ (a - 1) := Nat.one_le_pow _ _ (by omega)
  have h2 : 1 ≤ 4 ^ (b - 1) := Nat.one_le_pow _ _ (by omega)
  generalize 4 ^ (a - 1) = U at *
  generalize 4 ^ (b - 1) = V at *
  have h3 : U ≤ U * V := Nat.le_mul_of_pos_right U (by omega)
  have h4 : V ≤ U * V := Nat.le_mul_of_pos_left V (by omega)
  omega
theorem pow_rep {a c u k : Nat} (ha : 1 ≤ a) (hu : u ≤ 4 ^ (a - 1)) (hk : 1 + k ≤ 4 ^ c) : 1 + u * k ≤ 4 ^ (a + c - 1) := by
  have e : a + c - 1 = (a - 1) + c := by omega
  rw [e, Nat.pow_add]
  have h1 : 1 ≤ 4 ^ (a - 1) := Nat.one_le_pow _ _ (by omega)
  generalize 4 ^ (a - 1) = U at *
  generalize 4 ^ c = V at *
  have h2 : u * k ≤ U * k := Nat.mul_le_mul_right k hu
  have h3 : U * (1 + k) ≤ U * V := Nat.mul_le_mul_left U hk
  rw [Nat.mul_add] at h3
  omega
theorem pow_mono {a b : Nat} (h : a ≤ b) : 4 ^ (a - 1) ≤ 4 ^ (b - 1) := Nat.pow_le_pow_right (by omega) (by omega)
/-- So many bytes were read for a node of that size. -/
def Sz1 (n : Nat) (r : R1) : Prop := ∀ q, r = some q → q.2.length < n ∧ q.1.size ≤ 4 ^ (n - q.2.length - 1)
def SzL (k n : Nat) (r : RL) : Prop := ∀ q, r = some q → q.2.length ≤ n ∧ (q.1 ≠ [] → q.2.length < n ∧ (joinN k q.1).size ≤ 4 ^ (n - q.2.length - 1))
theorem join_cons {k : Nat} (hk : k = 4 ∨ k = 5) (x : Nd) : ∀ l : List Nd, l ≠ [] → (joinN k (x :: l)).size ≤ x.size + (joinN k l).size + 1
  | [], h => absurd rfl h
  | [y], _ => by
    show (⟨k, noB, 0, 0, [x, y]⟩ : Nd).size ≤ x.size + y.size + 1
    rw [Nd.size, if_neg (by omega), Nd.size.sizes, Nd.size.sizes, Nd.size.sizes]
    omega
  | y :: z :: l, _ => by
    show (⟨k, noB, 0, 0, x :: y :: z :: l⟩ : Nd).size ≤ x.size + (⟨k, noB, 0, 0, y :: z :: l⟩ : Nd).size + 1
    rw [Nd.size, if_neg (by omega), Nd.size, if_neg (by omega), Nd.size.sizes]
    omega
theorem jsz_leaf {n : Nat} {x : Nd} {r : List UInt8} (hx : x.size = 1) (h : r.length < n) : Sz1 n (some (x, r)) := fun q hq => by
  cases hq
  refine ⟨h, ?_⟩
  rw [hx]
  exact Nat.one_le_pow _ _ (by omega)
theorem rd_one (c : UInt8) (h : isDec c = true) : (rdAll 10 255 [c]).1 ≤ 9 := by
  have h1 : 48 ≤ c.toNat ∧ c.toNat ≤ 57 := of_decide_eq_true h
  unfold rdAll
  split
  · decide
  · rw [rd]
    split
    · decide
    · rw [rd]; simp; omega
theorem rep_size (m n : Int) (x : Nd) : (repN m n x).size = 1 + x.size * max 1 (if n < 0 then m else n).toNat := by
  show Nd.size ⟨6, noB, m, n, [x]⟩ = _
  rw [Nd.size, if_pos rfl, Nd.size.sizes, Nd.size.sizes]
  rfl
theorem tail_len {s : List UInt8} (p : UInt8 → Bool) : (s.takeWhile p).length ≤ s.length := by
  have := List.takeWhile_prefix (p := p) (l := s)
  exact this.length_le
theorem brace_sz {s : List UInt8} {q : Int × Int × List UInt8} (h : braceS [125] s = some q) : q.2.2.length + 2 ≤ s.length ∧ 1 + max 1 (if q.2.1 < 0 then q.1 else q.2.1).toNat ≤ 4 ^ (s.length + 1 - q.2.2.length) := by
  have hin := braceS_in h
  have hbig : ∀ k, 4 ≤ k → 1 + max 1 (if q.2.1 < 0 then q.1 else q.2.1).toNat ≤ 4 ^ k := fun k hk => by
    have h1 : 4 ^ 4 ≤ 4 ^ k := Nat.pow_le_pow_right (by omega) hk
    have h2 : max 1 (if q.2.1 < 0 then q.1 else q.2.1).toNat ≤ 255 := by
      obtain ⟨_, h3, _, h4⟩ := hin
      split <;> omega
    have h3 : (4 : Nat) ^ 4 = 256 := by decide
    omega
  have hd0 : ∀ d : List UInt8, (rdAll 10 255 d).2 = true → d ≠ [] := fun d h1 e => by rw [e] at h1; cases h1
  unfold braceS at h
  simp only at h
  have hdl := tail_len (s := s) isDec
  by_cases h1 : (rdAll 10 255 (s.takeWhile isDec)).2 = false
  · rw [if_pos h1] at h; cases h
  rw [if_neg h1] at h
  have hne := hd0 _ (by simpa using h1)
  have hdp := List.length_pos_iff.2 hne
  have hrl : (s.drop (s.takeWhile isDec).length).length = s.length - (s.takeWhile isDec).length := by simp
  by_cases h2 : (s.drop (s.takeWhile isDec).length)[0]? = some 44
  · rw [if_pos h2] at h
    have hr0 := lt_of_some h2
    unfold brace2 at h
    simp only at h
    by_cases h3 : begins [125] ((s.drop (s.takeWhile isDec).length).drop 1) = true
    · rw [if_pos h3] at h
      cases h
      have h4 := lt_of_some (begins_one.1 h3)
      simp only [List.length_drop, List.length_cons, List.length_nil] at h4 hr0 hrl ⊢
      exact ⟨by omega, hbig _ (by omega)⟩
    · rw [if_neg h3] at h
      split at h
      · rename_i h4
        cases h
        have hne2 := hd0 _ h4.1
        have hdp2 := List.length_pos_iff.2 hne2
        have h5 := lt_of_some (begins_one.1 h4.2.2)
        simp only [List.length_drop, List.length_cons, List.length_nil] at h5 hr0 hrl hdp2 ⊢
        exact ⟨by omega, hbig _ (by omega)⟩
      · cases h
  · rw [if_neg h2] at h
    split at h
    · rename_i h3
      cases h
      have h4 := lt_of_some (begins_one.1 h3)
      simp only [List.length_drop, List.length_cons, List.length_nil] at h4 hrl ⊢
      refine ⟨by omega, ?_⟩
      by_cases hd1 : (s.takeWhile isDec).length = 1
      · obtain ⟨c, hc⟩ := List.length_eq_one_iff.1 hd1
        have hcd : isDec c = true := by
          have := List.all_takeWhile (p := isDec) (l := s)
          rw [hc] at this
          simpa using this
        have h9 := rd_one c hcd
        have h0 := (rdAll_in [c]).1
        rw [hc]
        simp only [List.length_cons, List.length_nil, Nat.zero_add]
        have h6 : 4 ^ 3 ≤ 4 ^ (s.length + 1 - (s.length - 1 - 1)) := Nat.pow_le_pow_right (by omega) (by rw [hd1] at h4; omega)
        have h7 : (4 : Nat) ^ 3 = 64 := by decide
        split <;> omega
      · exact hbig _ (by omega)
    · cases h
theorem times_sz {s : List UInt8} {q : Int × Int × List UInt8} (h : timesS true s = some (some q)) : q.2.2.length < s.length ∧ 1 + max 1 (if q.2.1 < 0 then q.1 else q.2.1).toNat ≤ 4 ^ (s.length - q.2.2.length) := by
  have hone : ∀ k, 1 ≤ k → 2 ≤ 4 ^ k := fun k hk => by
    have h1 : 4 ^ 1 ≤ 4 ^ k := Nat.pow_le_pow_right (by omega) hk
    omega
  unfold timesS at h
  split at h
  · rename_i hc; cases h
    have := lt_of_some hc
    simp only [List.length_drop]
    exact ⟨by omega, hone _ (by omega)⟩
  rw [if_pos rfl] at h
  split at h
  · rename_i hc; cases h
    have := lt_of_some hc
    simp only [List.length_drop]
    exact ⟨by omega, hone _ (by omega)⟩
  split at h
  · rename_i hc; cases h
    have := lt_of_some hc
    simp only [List.length_drop]
    exact ⟨by omega, hone _ (by omega)⟩
  split at h
  · rename_i hc
    have h1 := brace_sz (Option.some.inj h)
    have := lt_of_some hc
    simp only [List.length_drop] at h1
    refine ⟨by omega, ?_⟩
    have e : s.length - 1 + 1 - q.2.2.length = s.length - q.2.2.length := by omega
    rw [e] at h1
    exact h1.2
  · cases h
theorem rep_sz {n : Nat} {x : Nd} {s : List UInt8} (hs : s.length < n) (hx : x.size ≤ 4 ^ (n - s.length - 1)) : Sz1 n (repS true x s) := by
  intro q hq
  unfold repS at hq
  split at hq
  · cases hq; exact ⟨hs, hx⟩
  · cases hq
  · rename_i u hu
    split at hq
    · cases hq
    · cases hq
      obtain ⟨h1, h2⟩ := times_sz hu
      refine ⟨by simp only; omega, ?_⟩
      simp only
      rw [rep_size]
      have := pow_rep (a := n - s.length) (c := s.length - u.2.2.length) (by omega) hx h2
      have e : n - s.length + (s.length - u.2.2.length) - 1 = n - u.2.2.length - 1 := by omega
      rw [e] at this
      exact this
section
variable {fold : Bool} {G : Nat → List UInt8 → RL}
theorem atom_sz {c : UInt8} {r : List UInt8} (hG : SzL 5 r.length (G 0 r)) (hne : ∀ q, G 0 r = some q → q.1 ≠ []) : Sz1 (r.length + 1) (atomE id fold G c r) := by
  intro q hq
  unfold atomE at hq
  by_cases a1 : c = 40
  · rw [if_pos a1] at hq
    unfold closeS at hq
    cases hg : G 0 r with
    | none => rw [hg] at hq; cases hq
    | some u =>
      rw [hg, Option.bind_some] at hq
      split at hq
      · cases hq
        obtain ⟨h1, h2⟩ := hG u hg
        obtain ⟨h3, h4⟩ := h2 (hne u hg)
        simp only [List.length_drop, List.length_cons, List.length_nil, id]
        refine ⟨by omega, Nat.le_trans h4 (pow_mono (by omega))⟩
      · cases hq
  rw [if_neg a1] at hq
  by_cases a2 : c = 91
  · rw [if_pos a2] at hq
    have hl := bracketS_len hq
    unfold bracketS at hq
    cases hp : partsS (r.length + 1) true noB (behindNot r) with
    | none => rw [hp] at hq; cases hq
    | some u => rw [hp] at hq; cases hq; exact jsz_leaf rfl (by simp only at hl; omega) _ rfl
  rw [if_neg a2] at hq
  by_cases a3 : c = 46
  · rw [if_pos a3] at hq; cases hq; exact jsz_leaf rfl (by omega) _ rfl
  rw [if_neg a3] at hq
  by_cases a4 : c = 94
  · rw [if_pos a4] at hq; cases hq; exact jsz_leaf rfl (by omega) _ rfl
  rw [if_neg a4] at hq
  by_cases a5 : c = 36
  · rw [if_pos a5] at hq; cases hq; exact jsz_leaf rfl (by omega) _ rfl
  rw [if_neg a5] at hq
  by_cases a6 : c = 92
  · rw [if_pos a6] at hq
    cases r with
    | nil => cases hq
    | cons d t =>
      rw [quoteE] at hq
      split at hq
      · cases hq
      · cases hq; exact jsz_leaf rfl (by simp only [List.length_cons]; omega) _ rfl
  rw [if_neg a6] at hq
  split at hq
  · cases hq
  · cases hq; exact jsz_leaf rfl (by omega) _ rfl
theorem piece_sz {c : UInt8} {r : List UInt8} (hG : SzL 5 r.length (G 0 r)) (hne : ∀ q, G 0 r = some q → q.1 ≠ []) : Sz1 (r.length + 1) (pieceE id fold G c r) := by
  intro q hq
  unfold pieceE at hq
  cases ha : atomE id fold G c r with
  | none => rw [ha] at hq; cases hq
  | some u =>
    obtain ⟨h1, h2⟩ := atom_sz hG hne u ha
    rw [ha, Option.bind_some] at hq
    split at hq
    · split at hq
      · cases hq
      · cases hq; exact ⟨h1, h2⟩
    · exact rep_sz h1 h2 q hq
end
theorem goS_sz {fold : Bool} : ∀ (n : Nat) (s : List UInt8), s.length ≤ n → SzL 4 s.length (goS id fold 1 s) ∧ SzL 5 s.length (goS id fold 0 s) ∧ ∀ q, goS id fold 0 s = some q → q.1 ≠ [] := by
  intro n
  induction n with
  | zero =>
    intro s hs
    have : s = [] := List.length_eq_zero_iff.1 (by omega)
    subst this
    have h1 : goS id fold 1 [] = some ([], []) := by rw [goS_1]; rfl
    have h0 : goS id fold 0 [] = none := by rw [goS_0, h1]; rfl
    refine ⟨fun q hq => ?_, fun q hq => ?_, fun q hq => ?_⟩
    · rw [h1] at hq; cases hq; exact ⟨Nat.le_refl _, fun h => absurd rfl h⟩
    · rw [h0] at hq; cases hq
    · rw [h0] at hq; cases hq
  | succ n ih =>
    have one : ∀ s : List UInt8, s.length ≤ n + 1 → SzL 4 s.length (goS id fold 1 s) := by
      intro s hs q hq
      rw [goS_1] at hq
      cases s with
      | nil => cases hq; exact ⟨Nat.le_refl _, fun h => absurd rfl h⟩
      | cons c r =>
        rw [stepE] at hq
        split at hq
        · cases hq; exact ⟨Nat.le_refl _, fun h => absurd rfl h⟩
        · simp only [List.length_cons] at hs ⊢
          obtain ⟨_, ih0, ihne⟩ := ih r (by omega)
          cases hp : pieceE id fold (goS id fold) c r with
          | none => rw [hp] at hq; cases hq
          | some u =>
            obtain ⟨h1, h2⟩ := piece_sz ih0 ihne u hp
            rw [hp, Option.bind_some] at hq
            unfold consR at hq
            cases hg : goS id fold 1 u.2 with
            | none => rw [hg] at hq; cases hq
            | some t =>
              rw [hg] at hq
              cases hq
              obtain ⟨g1, g2⟩ := (ih u.2 (by omega)).1 t hg
              refine ⟨by simp only; omega, fun _ => ⟨by simp only; omega, ?_⟩⟩
              simp only
              by_cases ht : t.1 = []
              · rw [ht]
                show u.1.size ≤ _
                exact Nat.le_trans h2 (pow_mono (by omega))
              · obtain ⟨g3, g4⟩ := g2 ht
                refine Nat.le_trans (join_cons (.inl rfl) u.1 t.1 ht) ?_
                have := pow_add (a := r.length + 1 - u.2.length) (b := u.2.length - t.2.length) (by omega) (by omega) h2 g4
                have e : r.length + 1 - u.2.length + (u.2.length - t.2.length) - 1 = r.length + 1 - t.2.length - 1 := by omega
                rw [e] at this
                exact this
    intro s hs
    refine ⟨one s hs, ?_, ?_⟩
    · intro q hq
      rw [goS_0] at hq
      cases hg : goS id fold 1 s with
      | none => rw [hg] at hq; cases hq
      | some u =>
        obtain ⟨h1, h2⟩ := one s hs u hg
        rw [hg, Option.bind_some] at hq
        unfold stepA at hq
        by_cases hu : u.1 = []
        · rw [if_pos hu] at hq; cases hq
        rw [if_neg hu] at hq
        obtain ⟨h3, h4⟩ := h2 hu
        split at hq
        · rename_i hc
          have hul := lt_of_some hc
          unfold consR at hq
          cases hg2 : goS id fold 0 (u.2.drop 1) with
          | none => rw [hg2] at hq; cases hq
          | some t =>
            rw [hg2] at hq
            cases hq
            obtain ⟨_, ih5, ihne⟩ := ih (u.2.drop 1) (by simp only [List.length_drop]; omega)
            obtain ⟨g1, g2⟩ := ih5 t hg2
            have ht := ihne t hg2
            obtain ⟨g3, g4⟩ := g2 ht
            simp only [List.length_drop] at g1 g3 g4
            refine ⟨by simp only; omega, fun _ => ⟨by simp only; omega, ?_⟩⟩
            simp only
            refine Nat.le_trans (join_cons (.inr rfl) _ t.1 ht) ?_
            have := pow_add (a := s.length - u.2.length) (b := u.2.length - 1 - t.2.length) (by omega) (by omega) h4 g4
            exact Nat.le_trans this (pow_mono (by omega))
        · cases hq
          exact ⟨by simp only; omega, fun _ => ⟨by simp only; omega, h4⟩⟩
    · intro q hq
      rw [goS_0] at hq
      cases hg : goS id fold 1 s with
      | none => rw [hg] at hq; cases hq
      | some u =>
        rw [hg, Option.bind_some] at hq
        unfold stepA at hq
        split at hq
        · cases hq
        split at hq
        · unfold consR at hq
          cases hg2 : goS id fold 0 (u.2.drop 1) with
          | none => rw [hg2] at hq; cases hq
          | some t => rw [hg2] at hq; cases hq; simp
        · cases hq; simp
/-- An extended expression of so many bytes is so great at most. -/
theorem read_sz {fold : Bool} {s : List UInt8} {x : Nd} (h : readS id true fold s = some x) : 1 ≤ s.length ∧ x.size ≤ 4 ^ (s.length - 1) := by
  unfold readS at h
  simp only [if_true] at h
  cases hg : goS id fold 0 s with
  | none => rw [hg] at h; cases h
  | some q =>
    rw [hg, Option.bind_some] at h
    split at h
    · rename_i hq
      cases h
      obtain ⟨_, h5, hne⟩ := goS_sz (fold := fold) s.length s (Nat.le_refl _)
      obtain ⟨h1, h2⟩ := (h5 q hg).2 (hne q hg)
      rw [hq] at h1 h2
      simp only [List.length_nil] at h1 h2
      exact ⟨by omega, by simpa using h2⟩
    · cases h
end Go.Proofs.YtlekfdkahlobiaaGreat.Re
