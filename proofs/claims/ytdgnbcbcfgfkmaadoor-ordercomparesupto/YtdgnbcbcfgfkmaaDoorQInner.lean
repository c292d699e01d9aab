/- A field's first byte that is no blank; a number's digits: by the reference. -/
import Derived.Test.YtdgnbcbcfgfkmaaDoorQKept
namespace Go.Proofs.YtdgnbcbcfgfkmaaDoor
open Go.RowKit

theorem blN_yes {c : UInt8} (h : isBl c = true) : c.toNat = 32 ∨ (¬ c.toNat = 32 ∧ c.toNat = 9) := by
  simp only [isBl, decide_eq_true_eq] at h
  rcases h with rfl | rfl
  · exact .inl rfl
  · exact .inr ⟨by decide, rfl⟩
theorem blN_no {c : UInt8} (h : isBl c = false) : ¬ c.toNat = 32 ∧ ¬ c.toNat = 9 := by
  simp only [isBl, decide_eq_false_iff_not, not_or] at h
  exact ⟨fun e => h.1 (UInt8.toNat_inj.1 (by rw [e]; rfl)), fun e => h.2 (UInt8.toNat_inj.1 (by rw [e]; rfl))⟩
theorem take_get (d : List UInt8) (n k : Nat) (h : k < n) (hd : k < d.length) : (d.take n)[k]'(by rw [List.length_take]; omega) = d[k] := by simp
set_option maxHeartbeats 2000000 in
set_option maxRecDepth 100000 in
theorem inner_c (v : Value) (d : List UInt8) (f0 f1 : Nat) (w : World) (hd : d.length ≤ 2097152) (h01 : f0 ≤ f1) (h1d : f1 ≤ d.length) (hB : ByAt w v d) :
    Calls Tryd.prog 43 #[v, .agg #[.int .i64 f0, .int .i64 f1]] w fun e w' => e = .returned (.int .i64 (innerS d (f0, f1) : Int)) ∧ Below w.heap.size w w' := by
  obtain ⟨x, cp, rfl⟩ := hB.shape
  have HR := Lib.hid (show innerS d (f0, f1) = f0 + skipB ((d.take f1).drop f0) from rfl)
  generalize innerS d (f0, f1) = R at HR ⊢
  have HB := Lib.hid hB
  clear hB
  generalize hn : d.length = n at hd h1d ⊢
  have HN := Lib.hid hn
  clear hn
  have c0 : (w.alloc (.cells #[.int .i64 f0, .int .i64 f1] 90)).cell? ⟨w.heap.size, 0, none⟩ = some (.int .i64 f0) := by
    have : (w.alloc (.cells #[.int .i64 f0, .int .i64 f1] 90)).heap[w.heap.size]? = some (.cells #[.int .i64 f0, .int .i64 f1] 90) := by show (w.heap.push _)[w.heap.size]? = _; simp
    simp only [World.cell?, this]; simp
  have c1 : (w.alloc (.cells #[.int .i64 f0, .int .i64 f1] 90)).cell? ⟨w.heap.size, 1, none⟩ = some (.int .i64 f1) := by
    have : (w.alloc (.cells #[.int .i64 f0, .int .i64 f1] 90)).heap[w.heap.size]? = some (.cells #[.int .i64 f0, .int .i64 f1] 90) := by show (w.heap.push _)[w.heap.size]? = _; simp
    simp only [World.cell?, this]; simp
  go_enter Tryd.func43, Tryd.ntmps43
  go_wp2_with fail
  go_loop [5] (fun i => ∃ k : Nat, f0 ≤ k ∧ k ≤ f1 ∧ i = .int .i64 k ∧ Hid (R = k + skipB ((d.take f1).drop k))) (fun i => f1 - (intOf i).toNat)
  case atStart => exact ⟨f0, by omega, by omega, rfl, HR⟩
  case round =>
    obtain ⟨k, hk0, hk, rfl, HI⟩ := hrel
    clear HR
    by_cases hlt : k < f1
    · obtain ⟨b, off, rfl, _, hcap, hb, hc⟩ := HB.out.some (by rw [HN.out]; omega)
      have hkd : k < d.length := by rw [HN.out]; omega
      have hcx : (w.alloc (.cells #[.int .i64 f0, .int .i64 f1] 90)).cell? ⟨b, off + k, none⟩ = some (.int .u8 ((d[k]).toNat : Int)) :=
        (((Below.refl w.heap.size w).alloc (Nat.le_refl _) _).cell (p := ⟨b, off + k, none⟩) hb).trans (hc k hkd)
      have hkt : k < (d.take f1).length := by rw [List.length_take, HN.out]; omega
      have hg := take_get d f1 k hlt hkd
      cases hbl : isBl d[k] with
      | true =>
        have HJ : Hid (R = (k + 1) + skipB ((d.take f1).drop (k + 1))) := by
          show R = _
          rw [HI.out, skipB_step _ k hkt (by rw [hg]; exact hbl)]
        have hy := And.intro (isBl_yes hbl) (blN_yes hbl)
        clear HI hc hcap hbl hg
        generalize d[k] = c at *
        obtain ⟨hy1, hy2⟩ := hy
        rcases hy2 with n1 | ⟨n1, n2⟩
        · have e1 : ((c.toNat : Int) == 32) = true := by rw [n1]; rfl
          clear hy1
          go_wp2_with fail
          exact ⟨⟨k + 1, by omega, by omega, by go_num, HJ⟩, by simp [intOf]; omega⟩
        · have e1 : ((c.toNat : Int) == 32) = false := by rw [n2]; rfl
          have e2 : ((c.toNat : Int) == 9) = true := by rw [n2]; rfl
          clear hy1
          go_wp2_with fail
          exact ⟨⟨k + 1, by omega, by omega, by go_num, HJ⟩, by simp [intOf]; omega⟩
      | false =>
        have HJ : Hid (R = k) := by
          show R = k
          rw [HI.out, skipB_stop _ k hkt (by rw [hg]; exact hbl)]
        obtain ⟨e1, e2⟩ := isBl_no hbl
        obtain ⟨n1, n2⟩ := blN_no hbl
        clear HI hc hcap hbl hg
        generalize d[k] = c at *
        go_wp2_with fail
        go_ret
        exact ⟨by have e := HJ.out; subst e; rfl, (Below.refl w.heap.size w).alloc (Nat.le_refl _) _⟩
    · have HJ : Hid (R = k) := by
        show R = k
        rw [HI.out, List.drop_eq_nil_of_le (by rw [List.length_take, HN.out]; omega)]
        rfl
      go_wp2_with fail
      go_ret
      exact ⟨by have e := HJ.out; subst e; rfl, (Below.refl w.heap.size w).alloc (Nat.le_refl _) _⟩
end Go.Proofs.YtdgnbcbcfgfkmaaDoor
