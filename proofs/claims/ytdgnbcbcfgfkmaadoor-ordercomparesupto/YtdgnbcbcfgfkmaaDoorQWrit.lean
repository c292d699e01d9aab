/- A number in digits: the law's own writing. -/
import Derived.Test.YtdgnbcbcfgfkmaaDoorQOrders
namespace Go.Proofs.YtdgnbcbcfgfkmaaDoor
open Go.RowKit

def goD (f m : Nat) (acc : List UInt8) : List UInt8 := if m = 0 ∧ acc ≠ [] then acc else decN f m acc
theorem goD_step (f m : Nat) (acc : List UInt8) (h : ¬ (m = 0 ∧ acc ≠ [])) : goD (f + 1) m acc = goD f (m / 10) (UInt8.ofNat (48 + m % 10) :: acc) := by
  unfold goD
  rw [if_neg h, decN]
  by_cases hm : m < 10
  · rw [if_pos hm, if_pos ⟨by omega, by simp⟩, Nat.mod_eq_of_lt hm]
  · rw [if_neg hm, if_neg (fun h => by omega)]
theorem cat1 (c : UInt8) (l : List UInt8) : Value.string (⟨#[c]⟩ ++ ⟨l.toArray⟩) = .string ⟨(c :: l).toArray⟩ := by
  congr 1
theorem conv_one (c : UInt8) (u : World) (n : Int) (hn : n = (c.toNat : Int)) : (convert 23 9 (.slice (some ⟨u.heap.size, 0, none⟩) 1 1)).run Tryd.prog (u.alloc (.cells #[.int .u8 n] 5)) = .ok (.string ⟨#[c]⟩) (u.alloc (.cells #[.int .u8 n] 5)) := by
  subst hn
  refine run_convert_bytes_back (P := Tryd.prog) _ 23 9 5 ⟨u.heap.size, 0, none⟩ 1 [c] Tryd.underlying23 Tryd.underlying5 Tryd.underlying9 (fun j hj => ?_)
  have hh : (u.alloc (.cells #[.int .u8 (c.toNat : Int)] 5)).heap[u.heap.size]? = some (.cells #[.int .u8 (c.toNat : Int)] 5) := by show (u.heap.push _)[u.heap.size]? = _; simp
  have : j = 0 := by simp at hj; omega
  subst this
  rw [Addr.add_lit]
  simp only [World.cell?, hh]
  simp
def strZ : Value → Nat | .string s => if s.size = 0 then 1 else 0 | _ => 0
theorem arr_size (l : List UInt8) : (⟨l.toArray⟩ : ByteArray).size = l.length := by rfl
theorem arr_ne {l : List UInt8} (h : l ≠ []) : ((⟨l.toArray⟩ : ByteArray).toList == []) = false := ne_empty (by rw [arr_size]; exact fun e => h (List.length_eq_zero_iff.1 e))

set_option maxHeartbeats 4000000 in
set_option maxRecDepth 100000 in
theorem written_c (n : Int) (z b : Nat) (w : World) (hn : n.natAbs ≤ 1000000000) (hz : z ≤ 50) (hb : b ≤ 50) :
    Calls Tryd.prog 15 #[.int .i64 n, .int .i64 z, .int .i64 b] w fun e w' => e = .returned (.string ⟨(wrtS n z b).toArray⟩) ∧ Below w.heap.size w w' := by
  have HN := Lib.hid (show decS n.natAbs = goD 11 n.natAbs [] from by unfold goD decS; rw [if_neg (by simp)])
  obtain ⟨N, hNN⟩ : ∃ N : Nat, n.natAbs = N := ⟨_, rfl⟩
  by_cases hneg : n < 0
  · have hnn : n = -(N : Int) := by omega
    subst hnn
    have hN0 : 0 < N := by omega
    rw [hNN] at HN hn
    clear hNN
    go_enter Tryd.func15, Tryd.ntmps15
    go_wp2_with fail
    go_loopw [0, 7] (fun nv sv wr => ∃ (m f : Nat) (acc : List UInt8), nv = .int .i64 m ∧ sv = .string ⟨acc.toArray⟩ ∧ m ≤ 1000000000 ∧ (acc = [] → 0 < f) ∧ m < 10 ^ f ∧ acc.length + f ≤ 11 ∧ Hid (decS N = goD f m acc) ∧ Below w.heap.size w wr) (fun nv sv _ => (intOf nv).natAbs + strZ sv)
    case atStart => exact ⟨N, 11, [], rfl, rfl, hn, by omega, by omega, by simp, HN, Below.refl _ _⟩
    case round =>
      obtain ⟨m, f, acc, rfl, rfl, hm, hf0, hmf, hlen, HD, hbl⟩ := hrel
      clear HN
      by_cases hfin : m = 0 ∧ acc ≠ []
      · obtain ⟨rfl, ha⟩ := hfin
        have hae : acc.isEmpty = false := by cases acc with | nil => exact absurd rfl ha | cons x l => rfl
        have HD' : Hid (decS N = acc) := by show _ = _; rw [HD.out]; unfold goD; rw [if_pos ⟨rfl, ha⟩]
        have ha' : ¬ acc = [] := ha
        clear HD hmf hf0 ha
        go_wp2_with fail
        go_loopw [7, 9] (fun sv iv wr => ∃ (k : Nat) (l : List UInt8), iv = .int .i64 k ∧ k ≤ z ∧ sv = .string ⟨l.toArray⟩ ∧ l.length ≤ 11 + k ∧ Hid (l = List.replicate k 48 ++ acc) ∧ Below w.heap.size w wr) (fun _ iv _ => z - (intOf iv).toNat)
        case atStart => exact ⟨0, acc, rfl, by omega, rfl, by omega, rfl, hbl⟩
        case round =>
          obtain ⟨k, l, rfl, hk, rfl, hll, HL, hbl2⟩ := hrel
          clear hbl
          have hsz := arr_size l
          by_cases hlt : k < z
          · have HL' : Hid (48 :: l = List.replicate (k + 1) 48 ++ acc) := by show _ = _; rw [HL.out, List.replicate_succ]; rfl
            clear HL
            go_wp2_with fail
            exact ⟨⟨k + 1, 48 :: l, by go_num, by omega, cat1 _ _, by simp; omega, HL', hbl2⟩, by simp [intOf]; omega⟩
          · obtain rfl : k = z := by omega
            clear hlt hk
            have hw0 := cat1 45 l
            go_wp2_with fail
            go_loopw [7, 10] (fun sv iv wr => ∃ (j : Nat) (q : List UInt8), iv = .int .i64 j ∧ j ≤ b ∧ sv = .string ⟨q.toArray⟩ ∧ q.length ≤ 100 + j ∧ Hid (q = List.replicate j 32 ++ ([45] ++ l)) ∧ Below w.heap.size w wr) (fun _ iv _ => b - (intOf iv).toNat)
            case atStart => exact ⟨0, [45] ++ l, rfl, by omega, by first | rfl | exact cat1 45 l, by simp; omega, (show _ = _ from rfl), hbl2⟩
            case round =>
              obtain ⟨j, q, rfl, hj, rfl, hlq, HQ, hbl3⟩ := hrel
              clear hbl2
              have hszq := arr_size q
              by_cases hjb : j < b
              · have HQ' : Hid (32 :: q = List.replicate (j + 1) 32 ++ ([45] ++ l)) := by show _ = _; rw [HQ.out, List.replicate_succ]; rfl
                clear HQ
                go_wp2_with fail
                exact ⟨⟨j + 1, 32 :: q, by go_num, by omega, cat1 _ _, by simp; omega, HQ', hbl3⟩, by simp [intOf]; omega⟩
              · obtain rfl : j = b := by omega
                clear hjb hj
                go_wp2_with fail
                go_ret
                refine ⟨?_, hbl3⟩
                have e : wrtS (-(N : Int)) k j = q := by
                  rw [HQ.out, HL.out, ← HD'.out]
                  unfold wrtS
                  rw [if_pos hneg, Int.natAbs_neg, Int.natAbs_natCast]
                rw [e]
                rfl
      · obtain ⟨f, rfl⟩ : ∃ g, f = g + 1 := by
          cases f with
          | zero =>
            exfalso
            have h0 : m = 0 := by simp at hmf; exact hmf
            by_cases ha : acc = []
            · have := hf0 ha; omega
            · exact hfin ⟨h0, ha⟩
          | succ g => exact ⟨g, rfl⟩
        have HD' : Hid (decS N = goD f (m / 10) (UInt8.ofNat (48 + m % 10) :: acc)) := by show _ = _; rw [HD.out, goD_step f m acc hfin]
        have hmf' : m / 10 < 10 ^ f := by rw [Nat.pow_succ] at hmf; omega
        have hsz := arr_size acc
        clear HD hmf hf0
        by_cases hm0 : 0 < m
        · obtain ⟨c, hc⟩ : ∃ c, UInt8.ofNat (48 + m % 10) = c := ⟨_, rfl⟩
          have hcv := conv_one c wr (48 + (m : Int) % 10) (by rw [← hc, dig_nat _ (by omega)]; omega)
          rw [hc] at HD'
          clear hfin hc
          go_wp2_with fail
          refine ⟨⟨m / 10, f, c :: acc, by go_num, cat1 _ _, by omega, by simp, hmf', by simp; omega, HD', hbl.alloc hbl.size _⟩, ?_⟩
          rw [cat1]
          simp [intOf, strZ, arr_size]
          omega
        · obtain rfl : m = 0 := by omega
          obtain rfl : acc = [] := Classical.byContradiction fun h => hfin ⟨rfl, h⟩
          have hcv := conv_one 48 wr 48 rfl
          clear hfin hm0
          go_wp2_with fail
          refine ⟨⟨0, f, [48], rfl, cat1 _ _, by omega, by simp, hmf', by simp; omega, HD', hbl.alloc hbl.size _⟩, ?_⟩
          simp [intOf, strZ, arr_size]
  · have hnn : n = (N : Int) := by omega
    subst hnn
    rw [hNN] at HN hn
    clear hNN
    go_enter Tryd.func15, Tryd.ntmps15
    go_wp2_with fail
    go_loopw [0, 7] (fun nv sv wr => ∃ (m f : Nat) (acc : List UInt8), nv = .int .i64 m ∧ sv = .string ⟨acc.toArray⟩ ∧ m ≤ 1000000000 ∧ (acc = [] → 0 < f) ∧ m < 10 ^ f ∧ acc.length + f ≤ 11 ∧ Hid (decS N = goD f m acc) ∧ Below w.heap.size w wr) (fun nv sv _ => (intOf nv).natAbs + strZ sv)
    case atStart => exact ⟨N, 11, [], rfl, rfl, hn, by omega, by omega, by simp, HN, Below.refl _ _⟩
    case round =>
      obtain ⟨m, f, acc, rfl, rfl, hm, hf0, hmf, hlen, HD, hbl⟩ := hrel
      clear HN
      by_cases hfin : m = 0 ∧ acc ≠ []
      · obtain ⟨rfl, ha⟩ := hfin
        have hae : acc.isEmpty = false := by cases acc with | nil => exact absurd rfl ha | cons x l => rfl
        have HD' : Hid (decS N = acc) := by show _ = _; rw [HD.out]; unfold goD; rw [if_pos ⟨rfl, ha⟩]
        have ha' : ¬ acc = [] := ha
        clear HD hmf hf0 ha
        go_wp2_with fail
        go_loopw [7, 9] (fun sv iv wr => ∃ (k : Nat) (l : List UInt8), iv = .int .i64 k ∧ k ≤ z ∧ sv = .string ⟨l.toArray⟩ ∧ l.length ≤ 11 + k ∧ Hid (l = List.replicate k 48 ++ acc) ∧ Below w.heap.size w wr) (fun _ iv _ => z - (intOf iv).toNat)
        case atStart => exact ⟨0, acc, rfl, by omega, rfl, by omega, rfl, hbl⟩
        case round =>
          obtain ⟨k, l, rfl, hk, rfl, hll, HL, hbl2⟩ := hrel
          clear hbl
          have hsz := arr_size l
          by_cases hlt : k < z
          · have HL' : Hid (48 :: l = List.replicate (k + 1) 48 ++ acc) := by show _ = _; rw [HL.out, List.replicate_succ]; rfl
            clear HL
            go_wp2_with fail
            exact ⟨⟨k + 1, 48 :: l, by go_num, by omega, cat1 _ _, by simp; omega, HL', hbl2⟩, by simp [intOf]; omega⟩
          · obtain rfl : k = z := by omega
            clear hlt hk
            have hw0 := cat1 45 l
            go_wp2_with fail
            go_loopw [7, 10] (fun sv iv wr => ∃ (j : Nat) (q : List UInt8), iv = .int .i64 j ∧ j ≤ b ∧ sv = .string ⟨q.toArray⟩ ∧ q.length ≤ 100 + j ∧ Hid (q = List.replicate j 32 ++ ([] ++ l)) ∧ Below w.heap.size w wr) (fun _ iv _ => b - (intOf iv).toNat)
            case atStart => exact ⟨0, [] ++ l, rfl, by omega, by first | rfl | exact cat1 45 l, by simp; omega, (show _ = _ from rfl), hbl2⟩
            case round =>
              obtain ⟨j, q, rfl, hj, rfl, hlq, HQ, hbl3⟩ := hrel
              clear hbl2
              have hszq := arr_size q
              by_cases hjb : j < b
              · have HQ' : Hid (32 :: q = List.replicate (j + 1) 32 ++ ([] ++ l)) := by show _ = _; rw [HQ.out, List.replicate_succ]; rfl
                clear HQ
                go_wp2_with fail
                exact ⟨⟨j + 1, 32 :: q, by go_num, by omega, cat1 _ _, by simp; omega, HQ', hbl3⟩, by simp [intOf]; omega⟩
              · obtain rfl : j = b := by omega
                clear hjb hj
                go_wp2_with fail
                go_ret
                refine ⟨?_, hbl3⟩
                have e : wrtS ((N : Int)) k j = q := by
                  rw [HQ.out, HL.out, ← HD'.out]
                  unfold wrtS
                  rw [if_neg (by omega), Int.natAbs_natCast]
                rw [e]
                rfl
      · obtain ⟨f, rfl⟩ : ∃ g, f = g + 1 := by
          cases f with
          | zero =>
            exfalso
            have h0 : m = 0 := by simp at hmf; exact hmf
            by_cases ha : acc = []
            · have := hf0 ha; omega
            · exact hfin ⟨h0, ha⟩
          | succ g => exact ⟨g, rfl⟩
        have HD' : Hid (decS N = goD f (m / 10) (UInt8.ofNat (48 + m % 10) :: acc)) := by show _ = _; rw [HD.out, goD_step f m acc hfin]
        have hmf' : m / 10 < 10 ^ f := by rw [Nat.pow_succ] at hmf; omega
        have hsz := arr_size acc
        clear HD hmf hf0
        by_cases hm0 : 0 < m
        · obtain ⟨c, hc⟩ : ∃ c, UInt8.ofNat (48 + m % 10) = c := ⟨_, rfl⟩
          have hcv := conv_one c wr (48 + (m : Int) % 10) (by rw [← hc, dig_nat _ (by omega)]; omega)
          rw [hc] at HD'
          clear hfin hc
          go_wp2_with fail
          refine ⟨⟨m / 10, f, c :: acc, by go_num, cat1 _ _, by omega, by simp, hmf', by simp; omega, HD', hbl.alloc hbl.size _⟩, ?_⟩
          rw [cat1]
          simp [intOf, strZ, arr_size]
          omega
        · obtain rfl : m = 0 := by omega
          obtain rfl : acc = [] := Classical.byContradiction fun h => hfin ⟨rfl, h⟩
          have hcv := conv_one 48 wr 48 rfl
          clear hfin hm0
          go_wp2_with fail
          refine ⟨⟨0, f, [48], rfl, cat1 _ _, by omega, by simp, hmf', by simp; omega, HD', hbl.alloc hbl.size _⟩, ?_⟩
          simp [intOf, strZ, arr_size]
end Go.Proofs.YtdgnbcbcfgfkmaaDoor
