/- What is asked of the program's orders; the laws' own small functions. -/
import Derived.Maps.AppendAt
import Derived.Deep.RegionWith
import Derived.Test.YtdgnbcbcfgfkmaaDoorQRef1
namespace Go.Proofs.YtdgnbcbcfgfkmaaDoor
open Go.RowKit

/-- Bytes in memory. -/
def ByAt (w : World) (v : Value) (d : List UInt8) : Prop :=
  (v = .slice none 0 0 ∧ d = []) ∨ ∃ b off cap, v = .slice (some ⟨b, off, none⟩) d.length cap ∧ (d.length ≤ cap ∧ cap ≤ 9223372036854775807) ∧ b < w.heap.size ∧ ∀ j, j < d.length → w.cell? ⟨b, off + j, none⟩ = some (.int .u8 ((d[j]?.getD 0).toNat : Int))
theorem ByAt.below {w w' : World} {v : Value} {d : List UInt8} (h : ByAt w v d) (hb : Below w.heap.size w w') : ByAt w' v d := by
  rcases h with h | ⟨b, off, cap, h1, h2, h3, h4⟩
  · exact .inl h
  · exact .inr ⟨b, off, cap, h1, h2, Nat.lt_of_lt_of_le h3 hb.size, fun j hj => (hb.cell (p := ⟨b, off + j, none⟩) h3).trans (h4 j hj)⟩
theorem ByAt.shape {w : World} {v : Value} {d : List UInt8} (h : ByAt w v d) : ∃ a c, v = .slice a d.length c := by
  rcases h with ⟨rfl, rfl⟩ | ⟨b, off, cap, rfl, _⟩
  · exact ⟨none, 0, rfl⟩
  · exact ⟨_, cap, rfl⟩
/-- Options in memory. -/
def OpAt (w : World) (v : Value) (l : Opts) : Prop :=
  (v = .slice none 0 0 ∧ l = []) ∨ ∃ b off cap, v = .slice (some ⟨b, off, none⟩) l.length cap ∧ (l.length ≤ cap ∧ cap ≤ 9223372036854775807) ∧ b < w.heap.size ∧ ∀ j, j < l.length → w.cell? ⟨b, off + j * 2, none⟩ = some (.int .u8 ((nthO l j).1.toNat : Int)) ∧ w.cell? ⟨b, off + j * 2 + 1, none⟩ = some (.string (nthO l j).2)
theorem OpAt.below {w w' : World} {v : Value} {l : Opts} (h : OpAt w v l) (hb : Below w.heap.size w w') : OpAt w' v l := by
  rcases h with h | ⟨b, off, cap, h1, h2, h3, h4⟩
  · exact .inl h
  · exact .inr ⟨b, off, cap, h1, h2, Nat.lt_of_lt_of_le h3 hb.size, fun j hj => ⟨(hb.cell (p := ⟨b, off + j * 2, none⟩) h3).trans (h4 j hj).1, (hb.cell (p := ⟨b, off + j * 2 + 1, none⟩) h3).trans (h4 j hj).2⟩⟩
abbrev OptsAt (w : World) (base : Nat) (v : Value) (l : Opts) : Prop := w.ownsRow base 63 2 v l.length (optCells l)
theorem op_own {w : World} {base : Nat} {v : Value} {l : Opts} (h : OptsAt w base v l) : OpAt w v l := by
  rcases h.2 with ⟨rfl, h0⟩ | ⟨g, cap, cur, rfl, hb, hg, hle, hcap, hsz, ht⟩
  · exact .inl ⟨rfl, List.length_eq_zero_iff.1 h0⟩
  · refine .inr ⟨g, 0, cap, rfl, ⟨hle, by unfold maxLen at hcap; exact hcap⟩, (Array.getElem?_eq_some_iff.1 hg).1, fun j hj => ?_⟩
    have h1 := own_cell2 h (j * 2) (by omega)
    have h2 := own_cell2 h (j * 2 + 1) (by omega)
    have h3 := optCells_at l j hj
    rw [Nat.zero_add, h1, h2]
    exact h3
/-- A text's bytes, as Go's own conversion lays them. -/
structure Says (OrdAt : World → Nat → Od → Prop) : Prop where
  keep : ∀ w w' p o, OrdAt w p o → Below w.heap.size w w' → OrdAt w' p o
  read : ∀ (v : Value) (l : Opts) (w : World), l.length ≤ 2097152 → (∀ q ∈ l, q.2.size ≤ 2097152) → OpAt w v l →
    Calls Tryd.prog 8 #[v] w fun e w' => (match readS l with
      | none => e = .returned (.tuple #[.pointer none, .bool false])
      | some o => ∃ p, e = .returned (.tuple #[.pointer (some ⟨p, 0, none⟩), .bool true]) ∧ OrdAt w' p o) ∧ Below w.heap.size w w'
  keys : ∀ (p : Nat) (o : Od) (va vb : Value) (a b : List UInt8) (w : World), OrdAt w p o → a.length ≤ 2097152 → b.length ≤ 2097152 → ByAt w va a → ByAt w vb b →
    Calls Tryd.prog 11 #[.pointer (some ⟨p, 0, none⟩), va, vb] w fun e w' => ∃ n : Int, e = .returned (.int .i64 n) ∧ (-9223372036854775808 ≤ n ∧ n ≤ 9223372036854775807) ∧ sgI n = o.keysC a b ∧ Below w.heap.size w w'
  cmp : ∀ (p : Nat) (o : Od) (va vb : Value) (a b : List UInt8) (w : World), OrdAt w p o → a.length ≤ 2097152 → b.length ≤ 2097152 → ByAt w va a → ByAt w vb b →
    Calls Tryd.prog 12 #[.pointer (some ⟨p, 0, none⟩), va, vb] w fun e w' => ∃ n : Int, e = .returned (.int .i64 n) ∧ (-9223372036854775808 ≤ n ∧ n ≤ 9223372036854775807) ∧ sgI n = o.cmp a b ∧ Below w.heap.size w w'

theorem sign_c (n : Int) (w : World) : Calls Tryd.prog 10 #[.int .i64 n] w fun e w' => e = .returned (.int .i64 (sgI n)) ∧ w' = w := by
  unfold sgI
  by_cases h1 : n < 0
  · rw [if_pos h1]
    go_enter Tryd.func10, Tryd.ntmps10
    go_wp2
    go_ret
    exact ⟨rfl, rfl⟩
  · rw [if_neg h1]
    by_cases h2 : 0 < n
    · rw [if_pos h2]
      go_enter Tryd.func10, Tryd.ntmps10
      go_wp2
      go_ret
      exact ⟨rfl, rfl⟩
    · rw [if_neg h2]
      go_enter Tryd.func10, Tryd.ntmps10
      go_wp2
      go_ret
      exact ⟨rfl, rfl⟩

theorem opts_snoc {w : World} {base : Nat} {v : Value} {l : Opts} {c : UInt8} {s : ByteArray} (h : w.ownsRow base 63 2 v (l.length + 1) (optCells l ++ [.int .u8 (c.toNat : Int), .string s])) : OptsAt w base v (l ++ [(c, s)]) := by
  unfold OptsAt; rw [optCells_snoc, List.length_append]; exact h
theorem cell_two_new (w : World) (x y : Value) (T : Nat) : ∀ j u, [x, y][j]? = some u → (w.alloc (.cells #[x, y] T)).cell? ((⟨w.heap.size, 0, none⟩ : Addr).add j) = some u := by
  intro j u h
  have hh : (w.alloc (.cells #[x, y] T)).heap[w.heap.size]? = some (.cells #[x, y] T) := by show (w.heap.push _)[w.heap.size]? = _; simp
  rw [Addr.add_lit]
  simp only [World.cell?, hh]
  match j with
  | 0 => simpa using h
  | 1 => simpa using h
  | j + 2 => simp at h

def flagOpts (s : List UInt8) : Opts := s.map fun c => (c, (⟨#[]⟩ : ByteArray))
def keyOpts (l : List ByteArray) : Opts := l.map fun k => ((107 : UInt8), k)
def sepOpts (s : ByteArray) : Opts := if s.size = 0 then [] else [((116 : UInt8), s)]
def optsS (fl sep : ByteArray) (keys : List ByteArray) : Opts := flagOpts fl.data.toList ++ sepOpts sep ++ keyOpts keys
theorem flagOpts_take (s : ByteArray) (k : Nat) (h : k < s.size) : flagOpts (s.data.toList.take (k + 1)) = flagOpts (s.data.toList.take k) ++ [(s[k], ⟨#[]⟩)] := by
  rw [List.take_add_one]; simp only [flagOpts, List.map_append]; rw [by_at s k h]; rfl
theorem keyOpts_take (l : List ByteArray) (k : Nat) (h : k < l.length) : keyOpts (l.take (k + 1)) = keyOpts (l.take k) ++ [(107, nth l k)] := by
  rw [List.take_add_one]; simp only [keyOpts, List.map_append]; simp [nth, h]
theorem ne_empty {s : ByteArray} (h : s.size ≠ 0) : (s.toList == []) = false := by
  rw [beq_eq_false_iff_ne, ByteArray.toList_eq]
  intro e
  apply h
  have := congrArg List.length e
  exact this
theorem at_empty {s : ByteArray} (h : s.size = 0) : s = ⟨#[]⟩ := by
  cases s with | mk d => congr; exact Array.eq_empty_of_size_eq_zero h

set_option maxHeartbeats 2000000 in
set_option maxRecDepth 100000 in
theorem opts_c (fl sep : ByteArray) (kv : Value) (keys : List ByteArray) (w : World) (hf : fl.size ≤ 1048576) (hk : keys.length ≤ 1048576) (hK : StrsAt w kv keys) :
    Calls Tryd.prog 16 #[.string fl, .string sep, kv] w fun e w' => ∃ v, e = .returned v ∧ OptsAt w' w.heap.size v (optsS fl sep keys) ∧ Below w.heap.size w w' := by
  obtain ⟨i0, hi, hz0, hz1, hz2⟩ := info_parts2 info_opt
  obtain ⟨xk, ck, rfl⟩ : ∃ x c, kv = .slice x keys.length c := by
    rcases hK with ⟨rfl, rfl⟩ | ⟨b, off, cap, rfl, _⟩
    · exact ⟨none, 0, rfl⟩
    · exact ⟨_, _, rfl⟩
  have HK := Lib.hid hK
  clear hK
  generalize hn : keys.length = n at hk HK ⊢
  have HN := Lib.hid hn
  clear hn
  go_enter Tryd.func16, Tryd.ntmps16
  go_wp2
  go_loopw [7, 8] (fun lv i wr => ∃ (k : Nat) (L : Opts), k ≤ fl.size ∧ i = .int .i64 k ∧ Hid (L = flagOpts (fl.data.toList.take k)) ∧ Hid (OptsAt wr w.heap.size lv L) ∧ L.length = k ∧ Below w.heap.size w wr) (fun _ i _ => fl.size - (intOf i).toNat)
  case atStart => exact ⟨0, [], by omega, rfl, rfl, World.ownsRow_nil _ _ _ _, rfl, Below.refl _ _⟩
  case round =>
    obtain ⟨k, L, hk, rfl, HL, HO, hlen, hbl⟩ := hrel
    by_cases hlt : k < fl.size
    · have HL' : Hid (L ++ [(fl[k], ⟨#[]⟩)] = flagOpts (fl.data.toList.take (k + 1))) := by show _ = _; rw [flagOpts_take fl k hlt, ← HL.out]
      clear HL
      go_wp2_with (first | (at_builtin; refine wpList_append_own _ rfl _ _ 22 rfl w.heap.size 63 i0 (.agg #[.int .u8 0, .string ⟨#[]⟩]) 2 24 Tryd.underlying22 hi hz0 hz1 hz2 rfl (by decide) _ _ _ rfl (HO.out.alloc _) ⟨wr.heap.size, 0, none⟩ 1 1 [.int .u8 (fl[k].toNat : Int), .string ⟨#[]⟩] rfl rfl (cell_two_new _ _ _ _) (by simp [Value.oneCell']) (by unfold maxLen; omega) (by omega) (by have := hbl.size; simp; omega) ?_; intro v2 w2 hown2 hgrow2 _))
      have hbw2 : Below w.heap.size w w2 := (hbl.alloc hbl.size _).grown hgrow2 (by have := hbl.size; simp; omega) (fun j ej => own_ge2 HO.out j ej)
      exact ⟨⟨k + 1, _, by omega, by go_num, HL', opts_snoc hown2, by rw [List.length_append, List.length_singleton]; omega, hbw2⟩, by simp [intOf]; omega⟩
    · have HL' : Hid (L = flagOpts fl.data.toList) := by
        have := HL.out
        rw [List.take_of_length_le (by show fl.size ≤ k; omega)] at this
        exact this
      clear HL
      by_cases hs : sep.size = 0
      · obtain rfl := at_empty hs
        go_wp2
        go_loopw [7, 9] (fun lv i wr => ∃ (k : Nat) (L : Opts), k ≤ n ∧ i = .int .i64 k ∧ Hid (L = flagOpts fl.data.toList ++ sepOpts ⟨#[]⟩ ++ keyOpts (keys.take k)) ∧ Hid (OptsAt wr w.heap.size lv L) ∧ L.length ≤ 1048577 + k ∧ Below w.heap.size w wr) (fun _ i _ => n - (intOf i).toNat)
        case atStart => exact ⟨0, L, by omega, rfl, by show L = _; rw [HL'.out]; unfold sepOpts; rw [if_pos (show (⟨#[]⟩ : ByteArray).size = 0 from rfl)]; simp [keyOpts], HO, by omega, hbl⟩
        case round =>
          obtain ⟨k, L, hk, rfl, HL, HO, hlen, hbl⟩ := hrel
          by_cases hlt : k < n
          · obtain ⟨b, off, cap, hx, hcap, hb, hc⟩ := (show ∃ b off cap, Value.slice xk n ck = .slice (some ⟨b, off, none⟩) n cap ∧ (n ≤ cap ∧ cap ≤ 9223372036854775807) ∧ b < w.heap.size ∧ ∀ j, j < n → w.cell? ⟨b, off + j, none⟩ = some (.string (nth keys j)) from by
              have hn := HN.out
              rcases HK.out with ⟨_, h2⟩ | h
              · rw [h2] at hn; simp at hn; omega
              · rw [hn] at h; exact h)
            cases hx
            have hcx : wr.cell? ⟨b, off + k, none⟩ = some (.string (nth keys k)) := (hbl.cell (p := ⟨b, off + k, none⟩) hb).trans (hc k hlt)
            have HL' : Hid (L ++ [(107, nth keys k)] = flagOpts fl.data.toList ++ sepOpts ⟨#[]⟩ ++ keyOpts (keys.take (k + 1))) := by show _ = _; rw [keyOpts_take keys k (by rw [HN.out]; exact hlt), ← List.append_assoc, ← HL.out]
            generalize nth keys k = kk at hcx HL'
            clear hc HK HL
            go_wp2_with (first | (at_builtin; refine wpList_append_own _ rfl _ _ 22 rfl w.heap.size 63 i0 (.agg #[.int .u8 0, .string ⟨#[]⟩]) 2 24 Tryd.underlying22 hi hz0 hz1 hz2 rfl (by decide) _ _ _ rfl (HO.out.alloc _) ⟨wr.heap.size, 0, none⟩ 1 1 [.int .u8 107, .string kk] rfl rfl (cell_two_new _ _ _ _) (by simp [Value.oneCell']) (by unfold maxLen; omega) (by omega) (by have := hbl.size; simp; omega) ?_; intro v2 w2 hown2 hgrow2 _))
            have hbw2 : Below w.heap.size w w2 := (hbl.alloc hbl.size _).grown hgrow2 (by have := hbl.size; simp; omega) (fun j ej => own_ge2 HO.out j ej)
            exact ⟨⟨k + 1, _, by omega, by go_num, HL', opts_snoc (c := 107) hown2, by rw [List.length_append, List.length_singleton]; omega, hbw2⟩, by simp [intOf]; omega⟩
          · go_wp2
            go_ret
            refine ⟨_, rfl, ?_, hbl⟩
            have hL := HL.out
            rw [List.take_of_length_le (by rw [HN.out]; omega)] at hL
            rw [show optsS fl ⟨#[]⟩ keys = L from hL.symm]
            exact HO.out
      · have hne : (sep.toList == []) = false := ne_empty hs
        have HS : Hid (L ++ [(116, sep)] = flagOpts fl.data.toList ++ sepOpts sep ++ keyOpts (keys.take 0)) := by show _ = _; rw [HL'.out]; unfold sepOpts; rw [if_neg hs]; simp [keyOpts]
        clear hs
        go_wp2_with (first | (at_builtin; refine wpList_append_own _ rfl _ _ 22 rfl w.heap.size 63 i0 (.agg #[.int .u8 0, .string ⟨#[]⟩]) 2 24 Tryd.underlying22 hi hz0 hz1 hz2 rfl (by decide) _ _ _ rfl (HO.out.alloc _) ⟨wr.heap.size, 0, none⟩ 1 1 [.int .u8 116, .string sep] rfl rfl (cell_two_new _ _ _ _) (by simp [Value.oneCell']) (by unfold maxLen; omega) (by omega) (by have := hbl.size; simp; omega) ?_; intro v2 w2 hown2 hgrow2 _))
        have hbw0 : Below w.heap.size w w2 := (hbl.alloc hbl.size _).grown hgrow2 (by have := hbl.size; simp; omega) (fun j ej => own_ge2 HO.out j ej)
        have HO2 : Hid (OptsAt w2 w.heap.size v2 (L ++ [(116, sep)])) := opts_snoc (c := 116) hown2
        clear hown2 hgrow2
        go_loopw [7, 9] (fun lv i wr => ∃ (k : Nat) (L : Opts), k ≤ n ∧ i = .int .i64 k ∧ Hid (L = flagOpts fl.data.toList ++ sepOpts sep ++ keyOpts (keys.take k)) ∧ Hid (OptsAt wr w.heap.size lv L) ∧ L.length ≤ 1048577 + k ∧ Below w.heap.size w wr) (fun _ i _ => n - (intOf i).toNat)
        case atStart => exact ⟨0, _, by omega, rfl, HS, HO2, by rw [List.length_append, List.length_singleton]; omega, hbw0⟩
        case round =>
          obtain ⟨k, L, hk, rfl, HL, HO, hlen, hbl⟩ := hrel
          by_cases hlt : k < n
          · obtain ⟨b, off, cap, hx, hcap, hb, hc⟩ := (show ∃ b off cap, Value.slice xk n ck = .slice (some ⟨b, off, none⟩) n cap ∧ (n ≤ cap ∧ cap ≤ 9223372036854775807) ∧ b < w.heap.size ∧ ∀ j, j < n → w.cell? ⟨b, off + j, none⟩ = some (.string (nth keys j)) from by
              have hn := HN.out
              rcases HK.out with ⟨_, h2⟩ | h
              · rw [h2] at hn; simp at hn; omega
              · rw [hn] at h; exact h)
            cases hx
            have hcx : wr.cell? ⟨b, off + k, none⟩ = some (.string (nth keys k)) := (hbl.cell (p := ⟨b, off + k, none⟩) hb).trans (hc k hlt)
            have HL' : Hid (L ++ [(107, nth keys k)] = flagOpts fl.data.toList ++ sepOpts sep ++ keyOpts (keys.take (k + 1))) := by show _ = _; rw [keyOpts_take keys k (by rw [HN.out]; exact hlt), ← List.append_assoc, ← HL.out]
            generalize nth keys k = kk at hcx HL'
            clear hc HK HL
            go_wp2_with (first | (at_builtin; refine wpList_append_own _ rfl _ _ 22 rfl w.heap.size 63 i0 (.agg #[.int .u8 0, .string ⟨#[]⟩]) 2 24 Tryd.underlying22 hi hz0 hz1 hz2 rfl (by decide) _ _ _ rfl (HO.out.alloc _) ⟨wr.heap.size, 0, none⟩ 1 1 [.int .u8 107, .string kk] rfl rfl (cell_two_new _ _ _ _) (by simp [Value.oneCell']) (by unfold maxLen; omega) (by omega) (by have := hbl.size; simp; omega) ?_; intro v2 w2 hown2 hgrow2 _))
            have hbw2 : Below w.heap.size w w2 := (hbl.alloc hbl.size _).grown hgrow2 (by have := hbl.size; simp; omega) (fun j ej => own_ge2 HO.out j ej)
            exact ⟨⟨k + 1, _, by omega, by go_num, HL', opts_snoc (c := 107) hown2, by rw [List.length_append, List.length_singleton]; omega, hbw2⟩, by simp [intOf]; omega⟩
          · go_wp2
            go_ret
            refine ⟨_, rfl, ?_, hbl⟩
            have hL := HL.out
            rw [List.take_of_length_le (by rw [HN.out]; omega)] at hL
            rw [show optsS fl sep keys = L from hL.symm]
            exact HO.out
end Go.Proofs.YtdgnbcbcfgfkmaaDoor
