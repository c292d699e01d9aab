/- Fields with a byte between them: the law's own joining. -/
import Derived.Test.YtdgnbcbcfgfkmaaDoorQNumbers
namespace Go.Proofs.YtdgnbcbcfgfkmaaDoor
open Go.RowKit

theorem joinS_snoc (c : UInt8) (L : List (List UInt8)) (g : List UInt8) : joinS c (L ++ [g]) = if L = [] then g else joinS c L ++ c :: g := by
  cases L with
  | nil => simp [joinS]
  | cons f fs => simp [joinS]
def lists (l : List ByteArray) : List (List UInt8) := l.map fun s => s.data.toList
theorem lists_take (l : List ByteArray) (k : Nat) (h : k < l.length) : lists (l.take (k + 1)) = lists (l.take k) ++ [(nth l k).data.toList] := by
  rw [List.take_add_one]; simp only [lists, List.map_append]; simp [nth, h]
theorem lists_nil {l : List ByteArray} {k : Nat} (h : k ≤ l.length) (hk : k ≠ 0) : lists (l.take k) ≠ [] := by
  intro e
  have h2 := congrArg List.length e
  rw [lists, List.length_map, List.length_take, List.length_nil] at h2
  omega
theorem take_has (s : ByteArray) (c : UInt8) (j : Nat) (h : j < s.size) (h1 : c ∉ s.data.toList.take j) (h2 : s[j] ≠ c) : c ∉ s.data.toList.take (j + 1) := by
  rw [List.take_add_one, by_at s j h]
  simp only [Option.toList_some, List.mem_append, List.mem_singleton, not_or]
  exact ⟨h1, fun e => h2 e.symm⟩
theorem cat2 (a b : List UInt8) : Value.string (⟨a.toArray⟩ ++ ⟨b.toArray⟩) = .string ⟨(a ++ b).toArray⟩ := by
  congr 1
theorem tot_nth : ∀ (l : List ByteArray) (k : Nat), k < l.length → (nth l k).size ≤ tot l
  | [], k, h => by simp at h
  | a :: l, 0, _ => by rw [tot_cons]; simp [nth]
  | a :: l, k + 1, h => by
    have := tot_nth l k (by simpa using h)
    rw [tot_cons]
    have e : nth (a :: l) (k + 1) = nth l k := by simp [nth]
    rw [e]; omega
theorem join_len (c : UInt8) : ∀ (L : List (List UInt8)), (joinS c L).length ≤ (L.map List.length).sum + L.length
  | [] => by simp [joinS]
  | f :: fs => by
    have : ∀ gs : List (List UInt8), (gs.flatMap fun g => c :: g).length = (gs.map List.length).sum + gs.length := by
      intro gs
      induction gs with
      | nil => rfl
      | cons g gs ih => rw [List.flatMap_cons, List.length_append, ih]; simp; omega
    simp only [joinS, List.length_append, this]
    simp; omega
theorem lists_sum : ∀ (l : List ByteArray) (k : Nat), ((lists (l.take k)).map List.length).sum ≤ tot l
  | [], k => by simp [lists]
  | a :: l, 0 => by simp [lists]
  | a :: l, k + 1 => by
    have := lists_sum l k
    rw [tot_cons]
    simp only [lists, List.take_succ_cons, List.map_cons, List.sum_cons] at this ⊢
    have e : a.data.toList.length = a.size := rfl
    omega
/-- What joined is answered. -/
def Joined (sep : UInt8) (l : List ByteArray) (s : ByteArray) : Prop := s = ⟨#[]⟩ ∨ (s = ⟨(joinS sep (lists l)).toArray⟩ ∧ ∀ f ∈ lists l, sep ∉ f)

set_option maxHeartbeats 4000000 in
set_option maxRecDepth 100000 in
theorem joined_c (v : Value) (l : List ByteArray) (sep : UInt8) (w : World) (hl : l.length ≤ 1048576) (ht : tot l ≤ 1048576) (hS : StrsAt w v l) :
    Calls Tryd.prog 17 #[v, .int .u8 (sep.toNat : Int)] w fun e w' => ∃ s, e = .returned (.string s) ∧ Joined sep l s ∧ s.size ≤ 2097152 ∧ Below w.heap.size w w' := by
  obtain ⟨x, c, rfl⟩ : ∃ x c, v = .slice x l.length c := by
    rcases hS with ⟨rfl, rfl⟩ | ⟨b, off, cap, rfl, _⟩
    · exact ⟨none, 0, rfl⟩
    · exact ⟨_, _, rfl⟩
  have HK := Lib.hid hS
  clear hS
  generalize hn : l.length = n at hl HK ⊢
  have HN := Lib.hid hn
  clear hn
  go_enter Tryd.func17, Tryd.ntmps17
  go_wp2_with fail
  go_loopw [5, 6] (fun sv iv wr => ∃ (k : Nat) (q : List UInt8), k ≤ n ∧ iv = .int .i64 k ∧ sv = .string ⟨q.toArray⟩ ∧ q.length ≤ 2097152 ∧ Hid (q = joinS sep (lists (l.take k))) ∧ Hid (∀ f ∈ lists (l.take k), sep ∉ f) ∧ Below w.heap.size w wr) (fun _ iv _ => n - (intOf iv).toNat)
  case atStart => exact ⟨0, [], by omega, rfl, rfl, by simp, (show _ = _ from rfl), (show ∀ f ∈ lists (l.take 0), sep ∉ f by simp [lists]), Below.refl _ _⟩
  case round =>
    obtain ⟨k, q, hk, rfl, rfl, hq, HQ, HF, hbl⟩ := hrel
    have hqs := arr_size q
    by_cases hlt : k < n
    · obtain ⟨b, off, cap, hx, hcap, hb, hc⟩ := (show ∃ b off cap, Value.slice x n c = .slice (some ⟨b, off, none⟩) n cap ∧ (n ≤ cap ∧ cap ≤ 9223372036854775807) ∧ b < w.heap.size ∧ ∀ j, j < n → w.cell? ⟨b, off + j, none⟩ = some (.string (nth l j)) from by
        have hn := HN.out
        rcases HK.out with ⟨_, h2⟩ | h
        · rw [h2] at hn; simp at hn; omega
        · rw [hn] at h; exact h)
      cases hx
      have hcx : wr.cell? ⟨b, off + k, none⟩ = some (.string (nth l k)) := (hbl.cell (p := ⟨b, off + k, none⟩) hb).trans (hc k hlt)
      have hts := tot_nth l k (by rw [HN.out]; exact hlt)
      have HT := Lib.hid (lists_take l k (by rw [HN.out]; exact hlt))
      have HC := Lib.hid hc
      clear hc
      generalize nth l k = t at hcx hts HT
      go_wp2_with fail
      go_loop [7] (fun iv => ∃ j : Nat, j ≤ t.size ∧ iv = .int .i64 j ∧ Hid (sep ∉ t.data.toList.take j)) (fun iv => t.size - (intOf iv).toNat)
      case atStart => exact ⟨0, by omega, rfl, (show sep ∉ t.data.toList.take 0 by simp)⟩
      case round =>
        obtain ⟨j, hj, rfl, HJ⟩ := hrel
        by_cases hjt : j < t.size
        · by_cases he : t[j] = sep
          · have hbe : (((t[j]).toNat : Int) == (sep.toNat : Int)) = true := by rw [u8_beq]; simpa using he
            go_wp2_with fail
            go_ret
            exact ⟨_, rfl, .inl rfl, by decide, hbl⟩
          · have hbe : (((t[j]).toNat : Int) == (sep.toNat : Int)) = false := by rw [u8_beq]; simpa using he
            have HJ' := Lib.hid (take_has t sep j hjt HJ.out he)
            clear HJ he
            go_wp2_with fail
            exact ⟨⟨j + 1, by omega, by go_num, HJ'⟩, by simp [intOf]; omega⟩
        · have HJ' : Hid (sep ∉ t.data.toList) := by
            have := HJ.out
            rw [List.take_of_length_le (by show t.size ≤ j; omega)] at this
            exact this
          have HF' : Hid (∀ f ∈ lists (l.take (k + 1)), sep ∉ f) := by
            show ∀ f ∈ lists (l.take (k + 1)), sep ∉ f
            rw [HT.out]
            intro f hf
            rcases List.mem_append.1 hf with hf | hf
            · exact HF.out f hf
            · rw [List.mem_singleton.1 hf]; exact HJ'.out
          have HQ' : Hid (joinS sep (lists (l.take (k + 1))) = if k = 0 then t.data.toList else q ++ sep :: t.data.toList) := by
            show _ = _
            rw [HT.out, joinS_snoc]
            by_cases h0 : k = 0
            · subst h0; rw [if_pos rfl, if_pos (by simp [lists])]
            · rw [if_neg h0, if_neg (lists_nil (by rw [HN.out]; omega) h0), HQ.out]
          have hlen : (joinS sep (lists (l.take (k + 1)))).length ≤ 2097152 := by
            have h1 := join_len sep (lists (l.take (k + 1)))
            have h2 := lists_sum l (k + 1)
            have h3 : (lists (l.take (k + 1))).length ≤ n := by
              have hn := HN.out
              simp [lists]; omega
            omega
          clear HJ HJ' HF HT
          by_cases h0 : k = 0
          · subst h0
            have hq0 : q = [] := by rw [HQ.out]; simp [lists, joinS]
            subst hq0
            rw [if_pos rfl] at HQ'
            rw [HQ'.out] at hlen
            rw [Nat.add_zero] at hcx
            clear HQ
            go_wp2_with fail
            refine ⟨⟨1, t.data.toList, by omega, by go_num, ?_, hlen, HQ'.out.symm, HF', hbl⟩, by simp [intOf]; omega⟩
            exact cat2 [] t.data.toList
          · rw [if_neg h0] at HQ'
            rw [HQ'.out] at hlen
            have hcv := conv_one sep wr (sep.toNat : Int) rfl
            have hcx2 : (wr.alloc (.cells #[.int .u8 (sep.toNat : Int)] 5)).cell? ⟨b, off + k, none⟩ = some (.string t) := by
              have hbr : b < wr.heap.size := Nat.lt_of_lt_of_le hb hbl.size
              exact ((Below.refl wr.heap.size wr).alloc (Nat.le_refl _) _).cell (p := ⟨b, off + k, none⟩) hbr |>.trans hcx
            have hk0 : 0 < k := by omega
            clear HQ
            go_wp2_with fail
            refine ⟨⟨k + 1, q ++ sep :: t.data.toList, by omega, by go_num, ?_, hlen, HQ'.out.symm, HF', hbl.alloc hbl.size _⟩, by simp [intOf]; omega⟩
            have e2 := cat2 (q ++ [sep]) t.data.toList
            rw [show q ++ sep :: t.data.toList = (q ++ [sep]) ++ t.data.toList by simp, ← e2]
            rfl
    · have hlk : l.take k = l := List.take_of_length_le (by rw [HN.out]; omega)
      have HR : Hid (Joined sep l ⟨q.toArray⟩) := by
        refine .inr ⟨by rw [HQ.out, hlk], fun f hf => HF.out f (by rw [hlk]; exact hf)⟩
      clear HQ HF
      go_wp2_with fail
      go_ret
      exact ⟨_, rfl, HR.out, by rw [hqs]; exact hq, hbl⟩
end Go.Proofs.YtdgnbcbcfgfkmaaDoor
