/- Plain mathematics: lines put together again are the bytes, and a number's digits are read as the number. -/
import Derived.Test.YtcpclpckjheadaaDoorNumMath
import Derived.Test.YtcpclpckjheadaaDoorDigMath
import Derived.Test.YtcpclpckjheadaaDoorLines
namespace Go.Proofs.YtcpclpckjheadaaDoor


theorem rd_append (b most : Int) (c : UInt8) : ∀ (l : List UInt8) (n : Int), rd b most (l ++ [c]) n = if (rd b most l n).2 = true then rd b most [c] (rd b most l n).1 else (0, false)
  | [], n => by rw [List.nil_append]; rfl
  | x :: l, n => by
    rw [List.cons_append, rd, rd]
    by_cases h : (x.toNat : Int) < 48 ∨ b + 48 ≤ (x.toNat : Int) ∨ most < (x.toNat : Int) - 48 ∨ (most - ((x.toNat : Int) - 48)) / b < n
    · rw [if_pos h, if_pos h]; simp
    · rw [if_neg h, if_neg h]; exact rd_append b most c l _

theorem sgn_toNat {d : Nat} (h : d < 10) : (sgn d).toNat = 48 + d := by
  rw [sgn, if_pos h]
  exact Nat.mod_eq_of_lt (by omega)

theorem rd_one {B : Nat} (hB : B = 8 ∨ B = 10) (most : Int) (d v : Nat) (hd : d < B) : rd B most [sgn d] v = if ((v * B + d : Nat) : Int) ≤ most then (((v * B + d : Nat) : Int), true) else (0, false) := by
  rw [rd, rd, sgn_toNat (by omega)]
  rcases hB with rfl | rfl
  · by_cases h : ((v * 8 + d : Nat) : Int) ≤ most
    · rw [if_pos h, if_neg (by omega)]; congr 1; omega
    · rw [if_neg h, if_pos (by omega)]
  · by_cases h : ((v * 10 + d : Nat) : Int) ≤ most
    · rw [if_pos h, if_neg (by omega)]; congr 1; omega
    · rw [if_neg h, if_pos (by omega)]

theorem rd_dgB {B : Nat} (hB : B = 8 ∨ B = 10) (most : Int) (u : Nat) : rd B most (dgB B u) 0 = if (u : Int) ≤ most then ((u : Int), true) else (0, false) := by
  induction u using Nat.strongRecOn with
  | ind u ih =>
    by_cases hu : u < B
    · rw [dgB_small hu]
      have := rd_one hB most u 0 hu
      simpa using this
    · have hlt : u / B < u := Nat.div_lt_self (by omega) (by omega)
      rw [dgB_step (by omega) (by omega), rd_append, ih (u / B) hlt]
      have hm : u / B * B + u % B = u := by have := Nat.div_add_mod u B; rw [Nat.mul_comm]; exact this
      have hmod : u % B < B := Nat.mod_lt _ (by omega)
      by_cases h : ((u / B : Nat) : Int) ≤ most
      · rw [if_pos h]
        have := rd_one hB most (u % B) (u / B) hmod
        rw [hm] at this
        simpa using this
      · rw [if_neg h, if_neg (show ¬ (u : Int) ≤ most by omega)]
        simp

theorem rdAll_dgB {B : Nat} (hB : B = 8 ∨ B = 10) (most : Int) (u : Nat) : rdAll B most (dgB B u) = if (u : Int) ≤ most then ((u : Int), true) else (0, false) := by
  have hne : ¬ (dgB B u).length = 0 := by
    by_cases hu : u < B
    · rw [dgB_small hu]; simp
    · rw [dgB_step (by omega) (by omega)]; simp
  rw [← rdAll_go hne, rd_dgB hB]


theorem feed_ten {x : UInt8} (h : feedB x = true) : x = 10 := by
  have : x.toNat = 10 := by have h' : (x.toNat : Int) = 10 := by simpa [feedB] using h
                            omega
  exact UInt8.toNat_inj.1 this

theorem take_snoc' (l : List UInt8) (k : Nat) (h : k < l.length) : l.take (k + 1) = l.take k ++ [l[k]?.getD 0] := by
  rw [List.take_succ_eq_append_getElem h]; simp [h]

/-- The pieces that have ended, each with a line feed, and the open one are the bytes so far; none of them has a line feed. -/
theorem cutTo_join (l : List UInt8) : ∀ k, k ≤ l.length → (cutTo feedB l k).2.flatMap (· ++ [10]) ++ (l.take k).drop (cutTo feedB l k).1 = l.take k ∧
    (∀ p ∈ (cutTo feedB l k).2, ∀ x ∈ p, feedB x = false) ∧ (∀ x ∈ (l.take k).drop (cutTo feedB l k).1, feedB x = false) ∧ ((cutTo feedB l k).1 = k → k = 0 ∨ feedB (l[k - 1]?.getD 0) = true)
  | 0, _ => by simp [cutTo]
  | k + 1, hk => by
    obtain ⟨h1, h2, h3, h4⟩ := cutTo_join l k (by omega)
    have hle := cutTo_le feedB l k
    have ht := take_snoc' l k (by omega)
    by_cases hc : feedB (l[k]?.getD 0) = true
    · rw [cutTo_yes hc]
      refine ⟨?_, ?_, ?_, fun _ => .inr hc⟩
      · have e : (l.take (k + 1)).drop (k + 1) = [] := by simp
        simp only [List.flatMap_append, List.flatMap_cons, List.flatMap_nil, List.append_nil]
        rw [e, List.append_nil, ← List.append_assoc, h1, ht, feed_ten hc]
      · intro p hp
        rcases List.mem_append.1 hp with hp | hp
        · exact h2 p hp
        · obtain rfl : p = (l.take k).drop (cutTo feedB l k).1 := by simpa using hp
          exact h3
      · intro x hx
        simp at hx
    · have hc' : feedB (l[k]?.getD 0) = false := by simpa using hc
      rw [cutTo_no hc']
      have hd : (l.take (k + 1)).drop (cutTo feedB l k).1 = (l.take k).drop (cutTo feedB l k).1 ++ [l[k]?.getD 0] := by
        rw [ht, List.drop_append_of_le_length (by simp; omega)]
      refine ⟨?_, h2, ?_, fun he => by omega⟩
      · rw [hd, ← List.append_assoc, h1, ht]
      · intro x hx
        rw [hd] at hx
        rcases List.mem_append.1 hx with hx | hx
        · exact h3 x hx
        · obtain rfl : x = l[k]?.getD 0 := by simpa using hx
          exact hc'

theorem kept_ended (ps : List (List UInt8)) : kept (ps.map fun p => (p, true)) = ps := by
  unfold kept
  rw [List.filter_eq_self.2 (by intro a ha; obtain ⟨p, _, rfl⟩ := List.mem_map.1 ha; rfl), List.map_map]
  exact List.map_id' ps
theorem kept_pcs (l : List UInt8) : kept (pcs feedB l) = (cutTo feedB l l.length).2 ++ (if (l.drop (cutTo feedB l l.length).1).length = 0 then [] else [l.drop (cutTo feedB l l.length).1]) := by
  have e : kept (pcs feedB l) = kept ((cutTo feedB l l.length).2.map fun p => (p, true)) ++ kept [(l.drop (cutTo feedB l l.length).1, false)] := by
    unfold kept pcs; rw [List.filter_append, List.map_append]
  rw [e, kept_ended]
  congr 1
  by_cases h : (l.drop (cutTo feedB l l.length).1).length = 0
  · rw [if_pos h]; simp only [kept, List.filter_cons, h]; rfl
  · rw [if_neg h]; simp only [kept, List.filter_cons, Bool.false_or]
    rw [if_pos (by simpa using Nat.pos_of_ne_zero h)]
    rfl

/-- A line feed where the bytes have none at their end. -/
def tailL (l : List UInt8) : List UInt8 := if 0 < l.length ∧ feedB (l[l.length - 1]?.getD 0) = false then [10] else []

theorem lines_join (l : List UInt8) : (kept (pcs feedB l)).flatMap (· ++ [10]) = l ++ tailL l := by
  obtain ⟨h1, h2, h3, h4⟩ := cutTo_join l l.length (Nat.le_refl _)
  have hle := cutTo_le feedB l l.length
  rw [List.take_length] at h1 h3
  rw [kept_pcs]
  by_cases h : (l.drop (cutTo feedB l l.length).1).length = 0
  · rw [if_pos h, List.append_nil]
    have hd : l.drop (cutTo feedB l l.length).1 = [] := List.eq_nil_of_length_eq_zero h
    rw [hd, List.append_nil] at h1
    rw [h1]
    have hb : (cutTo feedB l l.length).1 = l.length := by simp at h; omega
    have ht : tailL l = [] := by
      unfold tailL
      rw [if_neg]
      rintro ⟨ha, hb'⟩
      rcases h4 hb with h0 | h0
      · omega
      · rw [h0] at hb'; cases hb'
    rw [ht, List.append_nil]
  · rw [if_neg h]
    have hlen : (cutTo feedB l l.length).1 < l.length := by simp at h; omega
    have ht : tailL l = [10] := by
      unfold tailL
      rw [if_pos]
      refine ⟨by omega, h3 _ ?_⟩
      rw [List.mem_iff_getElem?]
      refine ⟨l.length - 1 - (cutTo feedB l l.length).1, ?_⟩
      rw [List.getElem?_drop, show (cutTo feedB l l.length).1 + (l.length - 1 - (cutTo feedB l l.length).1) = l.length - 1 by omega, List.getElem?_eq_getElem (show l.length - 1 < l.length by omega)]
      simp
    rw [ht, List.flatMap_append]
    simp only [List.flatMap_cons, List.flatMap_nil, List.append_nil]
    rw [← List.append_assoc, h1]

theorem lines_noFeed (l : List UInt8) : ∀ p ∈ kept (pcs feedB l), ∀ x ∈ p, feedB x = false := by
  obtain ⟨h1, h2, h3, h4⟩ := cutTo_join l l.length (Nat.le_refl _)
  rw [List.take_length] at h3
  rw [kept_pcs]
  intro p hp
  rcases List.mem_append.1 hp with hp | hp
  · exact h2 p hp
  · split at hp
    · cases hp
    · obtain rfl : p = l.drop (cutTo feedB l l.length).1 := by simpa using hp
      exact h3
end Go.Proofs.YtcpclpckjheadaaDoor
