/- The reference of strings: classes' names and signs. -/
import Derived.Test.YtfkoehfkiommpaaGreatDoorZRef1
namespace Go.Proofs.YtfkoehfkiommpaaGreatDoor.Tr
open Go.Proofs.YtfkoehfkiommpaaGreatDoor.Op
open Go.RowKit

def classN : List (List UInt8) := [[97, 108, 112, 104, 97], [100, 105, 103, 105, 116], [97, 108, 110, 117, 109], [117, 112, 112, 101, 114], [108, 111, 119, 101, 114], [98, 108, 97, 110, 107], [115, 112, 97, 99, 101], [99, 110, 116, 114, 108], [112, 114, 105, 110, 116], [103, 114, 97, 112, 104], [112, 117, 110, 99, 116], [120, 100, 105, 103, 105, 116]]
theorem classN_some : ∀ l ∈ classN, (classP l).isSome = true := by decide +kernel
theorem classN_none {l : List UInt8} (h : l ∉ classN) : (classP l).isSome = false := by
  unfold classN at h
  simp only [List.mem_cons, List.not_mem_nil, or_false, not_or] at h
  obtain ⟨h0, h1, h2, h3, h4, h5, h6, h7, h8, h9, h10, h11⟩ := h
  unfold classP
  rw [if_neg h0, if_neg h1, if_neg h2, if_neg h3, if_neg h4, if_neg h5, if_neg h6, if_neg h7, if_neg h8, if_neg h9, if_neg h10, if_neg h11]
  rfl
def nmA : Array Value := (classN.map fun l => Value.string ⟨l.toArray⟩).toArray
theorem twelve {i : Nat} (h : i < 12) : i = 0 ∨ i = 1 ∨ i = 2 ∨ i = 3 ∨ i = 4 ∨ i = 5 ∨ i = 6 ∨ i = 7 ∨ i = 8 ∨ i = 9 ∨ i = 10 ∨ i = 11 := by omega

theorem nm_cell (w : World) {i : Nat} (hi : i < 12) : (w.alloc (.cells nmA 100)).cell? ⟨w.heap.size, i, none⟩ = some (.string ⟨((classN[i]?).getD []).toArray⟩) := by
  have hh : (w.alloc (.cells nmA 100)).heap[w.heap.size]? = some (.cells nmA 100) := by show (w.heap.push _)[w.heap.size]? = _; simp
  simp only [World.cell?, hh]
  rcases twelve hi with rfl | rfl | rfl | rfl | rfl | rfl | rfl | rfl | rfl | rfl | rfl | rfl <;> rfl
theorem str_beq {a : ByteArray} {l : List UInt8} : (l == a.toList) = decide (a.data.toList = l) := by
  rw [Bool.eq_iff_iff, beq_iff_eq, decide_eq_true_eq, ByteArray.toList_eq]
  exact eq_comm

set_option maxHeartbeats 4000000 in
set_option maxRecDepth 100000 in
theorem classes_c (name : ByteArray) (w : World) (_hn : name.size ≤ 2097152) :
    Calls Tryz.prog 28 #[.string name] w fun e w' => e = .returned (.bool (classP name.data.toList).isSome) ∧ Below w.heap.size w w' := by
  have HR : Hid (∀ l, l = name.data.toList → (l ∈ classN → (classP name.data.toList).isSome = true) ∧ (l ∉ classN → (classP name.data.toList).isSome = false)) := by
    rintro l rfl
    exact ⟨classN_some _, classN_none⟩
  generalize (classP name.data.toList).isSome = R at HR ⊢
  go_enter Tryz.func28, Tryz.ntmps28
  go_wp2_with fail
  have hB : Below w.heap.size w (w.alloc (.cells nmA 100)) := (Below.refl _ w).alloc (Nat.le_refl _) _
  have HC : Hid (∀ i, i < 12 → (w.alloc (.cells nmA 100)).cell? ⟨w.heap.size, i, none⟩ = some (.string ⟨((classN[i]?).getD []).toArray⟩)) := fun i hi => nm_cell w hi
  have e : (Obj.cells #[.string ⟨#[97, 108, 112, 104, 97]⟩, .string ⟨#[100, 105, 103, 105, 116]⟩, .string ⟨#[97, 108, 110, 117, 109]⟩, .string ⟨#[117, 112, 112, 101, 114]⟩, .string ⟨#[108, 111, 119, 101, 114]⟩, .string ⟨#[98, 108, 97, 110, 107]⟩, .string ⟨#[115, 112, 97, 99, 101]⟩, .string ⟨#[99, 110, 116, 114, 108]⟩, .string ⟨#[112, 114, 105, 110, 116]⟩, .string ⟨#[103, 114, 97, 112, 104]⟩, .string ⟨#[112, 117, 110, 99, 116]⟩, .string ⟨#[120, 100, 105, 103, 105, 116]⟩] 100) = .cells nmA 100 := rfl
  rw [e]
  clear e
  generalize w.alloc (.cells nmA 100) = W at hB HC ⊢
  generalize Value.agg #[.string ⟨#[97, 108, 112, 104, 97]⟩, .string ⟨#[100, 105, 103, 105, 116]⟩, .string ⟨#[97, 108, 110, 117, 109]⟩, .string ⟨#[117, 112, 112, 101, 114]⟩, .string ⟨#[108, 111, 119, 101, 114]⟩, .string ⟨#[98, 108, 97, 110, 107]⟩, .string ⟨#[115, 112, 97, 99, 101]⟩, .string ⟨#[99, 110, 116, 114, 108]⟩, .string ⟨#[112, 114, 105, 110, 116]⟩, .string ⟨#[103, 114, 97, 112, 104]⟩, .string ⟨#[112, 117, 110, 99, 116]⟩, .string ⟨#[120, 100, 105, 103, 105, 116]⟩] = AG
  go_loop [4] (fun i => ∃ k : Nat, k ≤ 12 ∧ i = .int .i64 k ∧ Hid (name.data.toList ∉ classN.take k)) (fun i => 12 - (intOf i).toNat)
  case atStart => exact ⟨0, by omega, rfl, (show _ ∉ _ from by simp)⟩
  case round =>
    obtain ⟨k, hk, rfl, HI⟩ := hrel
    by_cases hlt : k < 12
    · have hcx := HC.out k hlt
      have HT : Hid (classN.take (k + 1) = classN.take k ++ [(classN[k]?).getD []]) := by
        have : k < classN.length := hlt
        show _ = _
        rw [List.take_succ_eq_append_getElem this, List.getElem?_eq_getElem this]
        rfl
      have HM : Hid ((classN[k]?).getD [] ∈ classN) := by
        have : k < classN.length := hlt
        show _ ∈ _
        rw [List.getElem?_eq_getElem this]
        exact List.getElem_mem this
      have hbq := @str_beq name ((classN[k]?).getD [])
      generalize (classN[k]?).getD [] = nm at hcx HT HM hbq
      by_cases hx : name.data.toList = nm
      · rw [decide_eq_true hx] at hbq
        have HX := Lib.hid hx
        clear hx
        go_wp2_with fail
        go_ret
        exact ⟨by rw [(HR.out _ HX.out.symm).1 HM.out]; rfl, hB⟩
      · rw [decide_eq_false hx] at hbq
        have HX := Lib.hid hx
        clear hx
        go_wp2_with fail
        exact ⟨⟨k + 1, by omega, by go_num, (show _ ∉ _ from by rw [HT.out]; simp only [List.mem_append, List.mem_singleton, not_or]; exact ⟨HI.out, HX.out⟩)⟩, by simp [intOf]; omega⟩
    · obtain rfl : k = 12 := by omega
      have HF : Hid (R = false) := (HR.out _ rfl).2 HI.out
      clear hlt
      go_wp2_with fail
      go_ret
      exact ⟨by rw [HF.out]; rfl, hB⟩

def sgn : List UInt8 := [97, 98, 102, 110, 114, 116, 118]
def cod : List UInt8 := [7, 8, 12, 10, 13, 9, 11]
theorem codeS_at : ∀ i, i < 7 → codeS (sgn[i]?.getD 0) = cod[i]?.getD 0 := by decide
theorem codeS_no {d : UInt8} (h : ∀ i, i < 7 → d ≠ sgn[i]?.getD 0) : codeS d = d := by
  unfold codeS
  have h0 : d ≠ 97 := h 0 (by decide)
  have h1 : d ≠ 98 := h 1 (by decide)
  have h2 : d ≠ 102 := h 2 (by decide)
  have h3 : d ≠ 110 := h 3 (by decide)
  have h4 : d ≠ 114 := h 4 (by decide)
  have h5 : d ≠ 116 := h 5 (by decide)
  have h6 : d ≠ 118 := h 6 (by decide)
  rw [if_neg h0, if_neg h1, if_neg h2, if_neg h3, if_neg h4, if_neg h5, if_neg h6]
theorem octs_le : ∀ (m : Nat) (l : List UInt8), (octs m l).length ≤ m
  | 0, l => by simp [octs]
  | m + 1, [] => by simp [octs]
  | m + 1, c :: r => by
    rw [octs]
    split
    · simpa using octs_le m r
    · simp
theorem octV_snoc (l : List UInt8) (c : UInt8) : octV (l ++ [c]) = 8 * octV l + (c.toNat - 48) := by simp [octV]
/-- A digit more. -/
theorem octs_go {m : Nat} {l : List UInt8} {c : UInt8} {r D : List UInt8} {j : Nat} (h : octs (m + 1) l = D.drop j) (hl : l = c :: r) (hc : isOct c = true) : octs m r = D.drop (j + 1) ∧ D[j]? = some c := by
  subst hl
  rw [octs, if_pos hc] at h
  have hj : j < D.length := by
    rcases Nat.lt_or_ge j D.length with h' | h'
    · exact h'
    · rw [List.drop_eq_nil_of_le h'] at h; simp at h
  rw [List.drop_eq_getElem_cons hj] at h
  obtain ⟨h1, h2⟩ := List.cons.inj h
  exact ⟨h2, by rw [List.getElem?_eq_getElem hj, h1]⟩
theorem octs_end0 {l D : List UInt8} {j : Nat} (h : octs 0 l = D.drop j) : D.length ≤ j := by
  rw [octs] at h
  exact List.drop_eq_nil_iff.1 h.symm
theorem octs_end1 {m : Nat} {l D : List UInt8} {j : Nat} (h : octs m l = D.drop j) (hl : l = []) : D.length ≤ j := by
  subst hl
  cases m <;> (rw [octs] at h; exact List.drop_eq_nil_iff.1 h.symm)
theorem octs_end2 {m : Nat} {l : List UInt8} {c : UInt8} {r D : List UInt8} {j : Nat} (h : octs m l = D.drop j) (hl : l = c :: r) (hc : isOct c = false) : D.length ≤ j := by
  subst hl
  cases m with
  | zero => exact octs_end0 h
  | succ m => rw [octs, if_neg (by rw [hc]; simp)] at h; exact List.drop_eq_nil_iff.1 h.symm

theorem signS_one {s : List UInt8} {c : UInt8} {r : List UInt8} (h : s = c :: r) (h2 : c ≠ 92 ∨ r = []) : signS s = (c, 1) := by
  subst h
  cases r with
  | nil => rfl
  | cons d r =>
    rcases h2 with h2 | h2
    · rw [signS, if_pos h2]
    · cases h2
theorem signS_oct {s : List UInt8} {d : UInt8} {r : List UInt8} (h : s = 92 :: d :: r) : signS s = if octs 3 (d :: r) = [] then (codeS d, 2) else (UInt8.ofNat (octV (octs 3 (d :: r))), (octs 3 (d :: r)).length + 1) := by
  subst h
  rw [signS, if_neg (by simp)]
theorem isOct_yes {c : UInt8} (h : isOct c = true) : 48 ≤ c.toNat ∧ c.toNat ≤ 55 := of_decide_eq_true h
theorem isOct_no {c : UInt8} (h : isOct c = false) : c.toNat < 48 ∨ (48 ≤ c.toNat ∧ 55 < c.toNat) := by
  have := of_decide_eq_false h
  omega
theorem seven {i : Nat} (h : i < 7) : i = 0 ∨ i = 1 ∨ i = 2 ∨ i = 3 ∨ i = 4 ∨ i = 5 ∨ i = 6 := by omega
theorem ret_sign {c d : UInt8} {n m : Nat} {p : UInt8 × Nat} (h : p = (d, m)) (h1 : c = d) (h2 : n = m) : Ending.returned (.tuple #[.int .u8 (c.toNat : Int), .int .i64 (n : Int)]) = .returned (.tuple #[.int .u8 (p.1.toNat : Int), .int .i64 (p.2 : Int)]) := by
  subst h1; subst h2; rw [h]
def codA : Array Value := (cod.map fun c => Value.int .u8 (c.toNat : Int)).toArray
theorem cod_cell (w : World) {i : Nat} (hi : i < 7) : (w.alloc (.cells codA 72)).cell? ⟨w.heap.size, i, none⟩ = some (.int .u8 (((cod[i]?).getD 0).toNat : Int)) := by
  have hh : (w.alloc (.cells codA 72)).heap[w.heap.size]? = some (.cells codA 72) := by show (w.heap.push _)[w.heap.size]? = _; simp
  simp only [World.cell?, hh]
  rcases seven hi with rfl | rfl | rfl | rfl | rfl | rfl | rfl <;> rfl

theorem below_drew {n : Nat} {a b : World} (h : Below n a b) : Below n a b.drew := h.trans ⟨rfl, rfl, rfl, Nat.le_refl _, fun _ _ => rfl⟩
set_option maxHeartbeats 4000000 in
set_option maxRecDepth 100000 in
theorem sign_c (s : ByteArray) (k : Nat) (w : World) (hs : s.size ≤ 2097152) (hk : k < s.size) :
    Calls Tryz.prog 18 #[.string s, .int .i64 (k : Int)] w fun e w' => e = .returned (.tuple #[.int .u8 ((signS (s.data.toList.drop k)).1.toNat : Int), .int .i64 ((signS (s.data.toList.drop k)).2 : Int)]) ∧ Below w.heap.size w w' := by
  have HD := Lib.hid (by_drop s k hk)
  by_cases h1 : s[k] = 92
  · have e1 : ((s[k].toNat : Int) != 92) = false := by have q : ((s[k].toNat : Int) == 92) = true := u8_yes 92 (by omega) h1; rw [bne, q]; rfl
    by_cases h2 : k + 1 < s.size
    · have n2 : ((k : Int) + 1 == (s.size : Int)) = false := by rw [beq_eq_false_iff_ne]; omega
      have HS := HD.out
      rw [by_drop s (k + 1) h2, h1] at HS
      have HS2 := Lib.hid (signS_oct HS)
      rw [← by_drop s (k + 1) h2] at HS2
      have HL := Lib.hid (octs_le 3 (s.data.toList.drop (k + 1)))
      generalize signS (s.data.toList.drop k) = P at HS2 ⊢
      clear HS HD
      generalize hO : octs 3 (s.data.toList.drop (k + 1)) = O at HS2 HL
      have HO := Lib.hid hO
      clear hO
      have hk2 := s[k + 1].toNat_lt
      go_enter Tryz.func18, Tryz.ntmps18
      go_wp2_with fail
      go_loop [6, 7] (fun nv iv => ∃ (m n : Nat), k + 1 ≤ m ∧ m ≤ k + 4 ∧ m ≤ s.size ∧ nv = .int .i64 n ∧ iv = .int .i64 m ∧ n ≤ 511 ∧ (m ≤ k + 3 → n ≤ 63) ∧ (m ≤ k + 2 → n ≤ 7) ∧ (m = k + 1 → n = 0) ∧ Hid (∃ j, m = k + 1 + j ∧ n = octV (O.take j) ∧ j ≤ O.length ∧ octs (3 - j) (s.data.toList.drop m) = O.drop j)) (fun _ iv => s.size - (intOf iv).toNat)
      case atStart => exact ⟨k + 1, 0, by omega, by omega, by omega, rfl, by go_num, by omega, by omega, by omega, by omega, (show ∃ j, _ from ⟨0, by omega, rfl, by omega, by simpa using HO.out⟩)⟩
      case round =>
        obtain ⟨m, n, hm1, hm4, hms, rfl, rfl, b1, b2, b3, b4, HI⟩ := hrel
        have hgo : (m < k + 4 ∧ m < s.size ∧ ∃ h : m < s.size, isOct s[m] = true) ∨ (Hid (k + 1 + O.length = m) ∧ ((m < k + 4 → m < s.size → ∃ h : m < s.size, isOct s[m] = false))) := by
          obtain ⟨j, hj, _, hl, ho⟩ := HI.out
          by_cases hj3 : m < k + 4
          · by_cases hjn : m < s.size
            · cases hq : isOct s[m] with
              | true => exact .inl ⟨hj3, hjn, hjn, hq⟩
              | false =>
                have := octs_end2 ho (by_drop s m hjn) hq
                exact .inr ⟨(show _ = _ from by omega), fun _ _ => ⟨hjn, hq⟩⟩
            · have := octs_end1 ho (by_drop_end s m (by omega))
              exact .inr ⟨(show _ = _ from by omega), fun _ h => absurd h hjn⟩
          · have e3 : 3 - j = 0 := by omega
            rw [e3] at ho
            have := octs_end0 ho
            exact .inr ⟨(show _ = _ from by omega), fun h => absurd h hj3⟩
        rcases hgo with ⟨hj3, hjn, _, ho⟩ | ⟨HE, hst⟩
        · have HK : Hid (∃ j, m + 1 = k + 1 + j ∧ 8 * n + (s[m].toNat - 48) = octV (O.take j) ∧ j ≤ O.length ∧ octs (3 - j) (s.data.toList.drop (m + 1)) = O.drop j) := by
            obtain ⟨j, hj, hv, hl, hx⟩ := HI.out
            obtain ⟨r, hr⟩ : ∃ r, 3 - j = r + 1 := ⟨3 - j - 1, by omega⟩
            rw [hr] at hx
            obtain ⟨g1, g2⟩ := octs_go hx (by_drop s m hjn) ho
            have hjl : j < O.length := (List.getElem?_eq_some_iff.1 g2).1
            refine ⟨j + 1, by omega, ?_, hjl, ?_⟩
            · rw [List.take_succ_eq_append_getElem hjl, octV_snoc, ← hv]
              rw [List.getElem?_eq_getElem hjl] at g2
              rw [Option.some.inj g2]
            · rw [show 3 - (j + 1) = r by omega]; exact g1
          obtain ⟨o1, o2⟩ := isOct_yes ho
          clear HI ho
          have q1 : (48 : Int) ≤ (s[m].toNat : Int) := by omega
          have q2 : (s[m].toNat : Int) ≤ 55 := by omega
          have q3 : n ≤ 63 := b2 (by omega)
          have q4 : (m : Int) < (k : Int) + 4 := by omega
          have HB := Lib.hid (And.intro b3 b4)
          clear b1 b2 b3 b4
          go_wp2_with fail
          have hB := HB.out
          exact ⟨⟨m + 1, 8 * n + (s[m].toNat - 48), by omega, by omega, by omega, by go_num, by go_num, by omega, fun h => by have := hB.1 (by omega); omega, fun h => by have := hB.2 (by omega); omega, fun h => by omega, HK⟩, by simp [intOf]; omega⟩
        · have hw : (m < k + 4 ∧ m < s.size ∧ ∃ h : m < s.size, s[m].toNat < 48) ∨ (m < k + 4 ∧ m < s.size ∧ ∃ h : m < s.size, 48 ≤ s[m].toNat ∧ 55 < s[m].toNat) ∨ (¬ m < k + 4 ∧ m < s.size) ∨ ¬ m < s.size := by
            by_cases a1 : m < k + 4
            · by_cases a2 : m < s.size
              · obtain ⟨h, hq⟩ := hst a1 a2
                rcases isOct_no hq with hq | hq
                · exact .inl ⟨a1, a2, h, hq⟩
                · exact .inr (.inl ⟨a1, a2, h, hq⟩)
              · exact .inr (.inr (.inr a2))
            · by_cases a2 : m < s.size
              · exact .inr (.inr (.inl ⟨a1, a2⟩))
              · exact .inr (.inr (.inr a2))
          clear hst b2 b3 b4
          have HV : Hid (n = octV O ∧ O.length = m - (k + 1)) := by
            obtain ⟨j, hj, hv, _, _⟩ := HI.out
            have he := HE.out
            have : O.length = j := by omega
            exact ⟨by rw [hv, ← this, List.take_length], by omega⟩
          clear HI HE HO
          by_cases h0 : k + 1 < m
          · have HS3 : Hid (P = (UInt8.ofNat n, m - k)) := by
              have hv := HV.out
              show P = _
              rw [HS2.out, if_neg (fun e => by rw [e] at hv; simp at hv; omega), ← hv.1, hv.2]
              exact Prod.ext rfl (by show m - (k + 1) + 1 = m - k; omega)
            clear HV HS2
            have q5 : (k : Int) + 1 < (m : Int) := by omega
            have hcv : ((UInt8.ofNat n).toNat : Int) = (n : Int) % 256 := by simp
            have hfin : ∀ a b : Int, a = (n : Int) % 256 → b = (m : Int) - k → Ending.returned (.tuple #[.int .u8 a, .int .i64 b]) = .returned (.tuple #[.int .u8 (P.1.toNat : Int), .int .i64 (P.2 : Int)]) := fun a b ha hb => by
              rw [HS3.out, ha, hb]
              show Ending.returned (.tuple #[.int .u8 ((n : Int) % 256), .int .i64 ((m : Int) - k)]) = .returned (.tuple #[.int .u8 ((UInt8.ofNat n).toNat : Int), .int .i64 ((m - k : Nat) : Int)])
              rw [hcv, Int.ofNat_sub (by omega)]
            have HF := Lib.hid hfin
            clear hfin hcv HS3
            rcases hw with ⟨a1, a2, _, a3⟩ | ⟨a1, a2, _, a3, a4⟩ | ⟨a1, a2⟩ | a1
            · have p1 : (s[m].toNat : Int) < 48 := by omega
              have p2 : (m : Int) < (k : Int) + 4 := by omega
              go_wp2_with fail
              go_ret2
              exact ⟨HF.out _ _ (by go_num) (by go_num), Below.refl _ _⟩
            · have p1 : (48 : Int) ≤ (s[m].toNat : Int) := by omega
              have p3 : (55 : Int) < (s[m].toNat : Int) := by omega
              have p2 : (m : Int) < (k : Int) + 4 := by omega
              go_wp2_with fail
              go_ret2
              exact ⟨HF.out _ _ (by go_num) (by go_num), Below.refl _ _⟩
            · have p2 : ¬ (m : Int) < (k : Int) + 4 := by omega
              go_wp2_with fail
              go_ret2
              exact ⟨HF.out _ _ (by go_num) (by go_num), Below.refl _ _⟩
            · have p2 : ¬ (m : Int) < (s.size : Int) := by omega
              go_wp2_with fail
              go_ret2
              exact ⟨HF.out _ _ (by go_num) (by go_num), Below.refl _ _⟩
          · obtain rfl : m = k + 1 := by omega
            have HS3 : Hid (P = (codeS s[k + 1], 2)) := by
              have hv := HV.out
              show P = _
              rw [HS2.out, if_pos (List.length_eq_zero_iff.1 (by omega))]
            clear HV HS2 h0
            rcases hw with ⟨a1, a2, _, a3⟩ | ⟨a1, a2, _, a3, a4⟩ | ⟨a1, a2⟩ | a1
            · have p1 : (s[k + 1].toNat : Int) < 48 := by omega
              go_wp2_with fail
              have hB : Below w.heap.size w (w.alloc (.cells codA 72)) := (Below.refl _ w).alloc (Nat.le_refl _) _
              have HC : Hid (∀ i, i < 7 → (w.alloc (.cells codA 72)).cell? ⟨w.heap.size, i, none⟩ = some (.int .u8 (((cod[i]?).getD 0).toNat : Int))) := fun i hi => cod_cell w hi
              have e : (Obj.cells #[.int .u8 7, .int .u8 8, .int .u8 12, .int .u8 10, .int .u8 13, .int .u8 9, .int .u8 11] 72) = .cells codA 72 := rfl
              rw [e]
              clear e
              have hWl : w.heap.size < (w.alloc (.cells codA 72)).heap.size := by simp
              generalize w.alloc (.cells codA 72) = W at hB HC hWl ⊢
              generalize Value.agg #[.int .u8 7, .int .u8 8, .int .u8 12, .int .u8 10, .int .u8 13, .int .u8 9, .int .u8 11] = AG
              go_loopw [10] (fun i wr => ∃ q : Nat, q ≤ 7 ∧ i = .int .i64 q ∧ Hid (∀ i, i < q → s[k + 1] ≠ sgn[i]?.getD 0) ∧ Below W.heap.size W wr) (fun i _ => 7 - (intOf i).toNat)
              case atStart => exact ⟨0, by omega, rfl, (show ∀ i, i < 0 → _ from fun i hi => absurd hi (by omega)), Below.refl _ _⟩
              case round =>
                obtain ⟨q, hq, rfl, HQ, hbl⟩ := hrel
                by_cases hlt : q < 7
                · rcases seven hlt with rfl | rfl | rfl | rfl | rfl | rfl | rfl
                  · have hcx : wr.cell? ⟨w.heap.size, 0, none⟩ = some (.int .u8 7) := (hbl.cell (p := ⟨w.heap.size, 0, none⟩) hWl).trans (HC.out 0 (by omega))
                    by_cases hx : s[k + 1] = 97
                    · have eb : ((s[k + 1].toNat : Int) == (((⟨#[97, 98, 102, 110, 114, 116, 118]⟩ : ByteArray)[0]'(by decide)).toNat : Int)) = true := u8_yes 97 (by omega) hx
                      have HS4 : Hid (P = (7, 2)) := by show P = _; rw [HS3.out, hx]; rfl
                      clear HS3 hx HQ
                      go_wp2_with fail
                      go_region
                      all_goals
                        go_wp2_with fail
                        go_ret2
                        exact ⟨ret_sign (c := 7) (n := 2) HS4.out rfl rfl, hB.trans ((below_drew hbl).mono hB.size)⟩
                    · have eb : ((s[k + 1].toNat : Int) == (((⟨#[97, 98, 102, 110, 114, 116, 118]⟩ : ByteArray)[0]'(by decide)).toNat : Int)) = false := u8_no 97 (by omega) hx
                      have HQ' : Hid (∀ i, i < 1 → s[k + 1] ≠ sgn[i]?.getD 0) := fun i hi => by
                        rcases Nat.lt_or_ge i 0 with h | h
                        · exact HQ.out i h
                        · obtain rfl : i = 0 := by omega
                          exact hx
                      clear HQ hx
                      go_wp2_with fail
                      go_region
                      all_goals
                        go_wp2_with fail
                        exact ⟨⟨1, by omega, by go_num, HQ', below_drew hbl⟩, by simp [intOf]⟩
                  · have hcx : wr.cell? ⟨w.heap.size, 1, none⟩ = some (.int .u8 8) := (hbl.cell (p := ⟨w.heap.size, 1, none⟩) hWl).trans (HC.out 1 (by omega))
                    by_cases hx : s[k + 1] = 98
                    · have eb : ((s[k + 1].toNat : Int) == (((⟨#[97, 98, 102, 110, 114, 116, 118]⟩ : ByteArray)[1]'(by decide)).toNat : Int)) = true := u8_yes 98 (by omega) hx
                      have HS4 : Hid (P = (8, 2)) := by show P = _; rw [HS3.out, hx]; rfl
                      clear HS3 hx HQ
                      go_wp2_with fail
                      go_region
                      all_goals
                        go_wp2_with fail
                        go_ret2
                        exact ⟨ret_sign (c := 8) (n := 2) HS4.out rfl rfl, hB.trans ((below_drew hbl).mono hB.size)⟩
                    · have eb : ((s[k + 1].toNat : Int) == (((⟨#[97, 98, 102, 110, 114, 116, 118]⟩ : ByteArray)[1]'(by decide)).toNat : Int)) = false := u8_no 98 (by omega) hx
                      have HQ' : Hid (∀ i, i < 2 → s[k + 1] ≠ sgn[i]?.getD 0) := fun i hi => by
                        rcases Nat.lt_or_ge i 1 with h | h
                        · exact HQ.out i h
                        · obtain rfl : i = 1 := by omega
                          exact hx
                      clear HQ hx
                      go_wp2_with fail
                      go_region
                      all_goals
                        go_wp2_with fail
                        exact ⟨⟨2, by omega, by go_num, HQ', below_drew hbl⟩, by simp [intOf]⟩
                  · have hcx : wr.cell? ⟨w.heap.size, 2, none⟩ = some (.int .u8 12) := (hbl.cell (p := ⟨w.heap.size, 2, none⟩) hWl).trans (HC.out 2 (by omega))
                    by_cases hx : s[k + 1] = 102
                    · have eb : ((s[k + 1].toNat : Int) == (((⟨#[97, 98, 102, 110, 114, 116, 118]⟩ : ByteArray)[2]'(by decide)).toNat : Int)) = true := u8_yes 102 (by omega) hx
                      have HS4 : Hid (P = (12, 2)) := by show P = _; rw [HS3.out, hx]; rfl
                      clear HS3 hx HQ
                      go_wp2_with fail
                      go_region
                      all_goals
                        go_wp2_with fail
                        go_ret2
                        exact ⟨ret_sign (c := 12) (n := 2) HS4.out rfl rfl, hB.trans ((below_drew hbl).mono hB.size)⟩
                    · have eb : ((s[k + 1].toNat : Int) == (((⟨#[97, 98, 102, 110, 114, 116, 118]⟩ : ByteArray)[2]'(by decide)).toNat : Int)) = false := u8_no 102 (by omega) hx
                      have HQ' : Hid (∀ i, i < 3 → s[k + 1] ≠ sgn[i]?.getD 0) := fun i hi => by
                        rcases Nat.lt_or_ge i 2 with h | h
                        · exact HQ.out i h
                        · obtain rfl : i = 2 := by omega
                          exact hx
                      clear HQ hx
                      go_wp2_with fail
                      go_region
                      all_goals
                        go_wp2_with fail
                        exact ⟨⟨3, by omega, by go_num, HQ', below_drew hbl⟩, by simp [intOf]⟩
                  · have hcx : wr.cell? ⟨w.heap.size, 3, none⟩ = some (.int .u8 10) := (hbl.cell (p := ⟨w.heap.size, 3, none⟩) hWl).trans (HC.out 3 (by omega))
                    by_cases hx : s[k + 1] = 110
                    · have eb : ((s[k + 1].toNat : Int) == (((⟨#[97, 98, 102, 110, 114, 116, 118]⟩ : ByteArray)[3]'(by decide)).toNat : Int)) = true := u8_yes 110 (by omega) hx
                      have HS4 : Hid (P = (10, 2)) := by show P = _; rw [HS3.out, hx]; rfl
                      clear HS3 hx HQ
                      go_wp2_with fail
                      go_region
                      all_goals
                        go_wp2_with fail
                        go_ret2
                        exact ⟨ret_sign (c := 10) (n := 2) HS4.out rfl rfl, hB.trans ((below_drew hbl).mono hB.size)⟩
                    · have eb : ((s[k + 1].toNat : Int) == (((⟨#[97, 98, 102, 110, 114, 116, 118]⟩ : ByteArray)[3]'(by decide)).toNat : Int)) = false := u8_no 110 (by omega) hx
                      have HQ' : Hid (∀ i, i < 4 → s[k + 1] ≠ sgn[i]?.getD 0) := fun i hi => by
                        rcases Nat.lt_or_ge i 3 with h | h
                        · exact HQ.out i h
                        · obtain rfl : i = 3 := by omega
                          exact hx
                      clear HQ hx
                      go_wp2_with fail
                      go_region
                      all_goals
                        go_wp2_with fail
                        exact ⟨⟨4, by omega, by go_num, HQ', below_drew hbl⟩, by simp [intOf]⟩
                  · have hcx : wr.cell? ⟨w.heap.size, 4, none⟩ = some (.int .u8 13) := (hbl.cell (p := ⟨w.heap.size, 4, none⟩) hWl).trans (HC.out 4 (by omega))
                    by_cases hx : s[k + 1] = 114
                    · have eb : ((s[k + 1].toNat : Int) == (((⟨#[97, 98, 102, 110, 114, 116, 118]⟩ : ByteArray)[4]'(by decide)).toNat : Int)) = true := u8_yes 114 (by omega) hx
                      have HS4 : Hid (P = (13, 2)) := by show P = _; rw [HS3.out, hx]; rfl
                      clear HS3 hx HQ
                      go_wp2_with fail
                      go_region
                      all_goals
                        go_wp2_with fail
                        go_ret2
                        exact ⟨ret_sign (c := 13) (n := 2) HS4.out rfl rfl, hB.trans ((below_drew hbl).mono hB.size)⟩
                    · have eb : ((s[k + 1].toNat : Int) == (((⟨#[97, 98, 102, 110, 114, 116, 118]⟩ : ByteArray)[4]'(by decide)).toNat : Int)) = false := u8_no 114 (by omega) hx
                      have HQ' : Hid (∀ i, i < 5 → s[k + 1] ≠ sgn[i]?.getD 0) := fun i hi => by
                        rcases Nat.lt_or_ge i 4 with h | h
                        · exact HQ.out i h
                        · obtain rfl : i = 4 := by omega
                          exact hx
                      clear HQ hx
                      go_wp2_with fail
                      go_region
                      all_goals
                        go_wp2_with fail
                        exact ⟨⟨5, by omega, by go_num, HQ', below_drew hbl⟩, by simp [intOf]⟩
                  · have hcx : wr.cell? ⟨w.heap.size, 5, none⟩ = some (.int .u8 9) := (hbl.cell (p := ⟨w.heap.size, 5, none⟩) hWl).trans (HC.out 5 (by omega))
                    by_cases hx : s[k + 1] = 116
                    · have eb : ((s[k + 1].toNat : Int) == (((⟨#[97, 98, 102, 110, 114, 116, 118]⟩ : ByteArray)[5]'(by decide)).toNat : Int)) = true := u8_yes 116 (by omega) hx
                      have HS4 : Hid (P = (9, 2)) := by show P = _; rw [HS3.out, hx]; rfl
                      clear HS3 hx HQ
                      go_wp2_with fail
                      go_region
                      all_goals
                        go_wp2_with fail
                        go_ret2
                        exact ⟨ret_sign (c := 9) (n := 2) HS4.out rfl rfl, hB.trans ((below_drew hbl).mono hB.size)⟩
                    · have eb : ((s[k + 1].toNat : Int) == (((⟨#[97, 98, 102, 110, 114, 116, 118]⟩ : ByteArray)[5]'(by decide)).toNat : Int)) = false := u8_no 116 (by omega) hx
                      have HQ' : Hid (∀ i, i < 6 → s[k + 1] ≠ sgn[i]?.getD 0) := fun i hi => by
                        rcases Nat.lt_or_ge i 5 with h | h
                        · exact HQ.out i h
                        · obtain rfl : i = 5 := by omega
                          exact hx
                      clear HQ hx
                      go_wp2_with fail
                      go_region
                      all_goals
                        go_wp2_with fail
                        exact ⟨⟨6, by omega, by go_num, HQ', below_drew hbl⟩, by simp [intOf]⟩
                  · have hcx : wr.cell? ⟨w.heap.size, 6, none⟩ = some (.int .u8 11) := (hbl.cell (p := ⟨w.heap.size, 6, none⟩) hWl).trans (HC.out 6 (by omega))
                    by_cases hx : s[k + 1] = 118
                    · have eb : ((s[k + 1].toNat : Int) == (((⟨#[97, 98, 102, 110, 114, 116, 118]⟩ : ByteArray)[6]'(by decide)).toNat : Int)) = true := u8_yes 118 (by omega) hx
                      have HS4 : Hid (P = (11, 2)) := by show P = _; rw [HS3.out, hx]; rfl
                      clear HS3 hx HQ
                      go_wp2_with fail
                      go_region
                      all_goals
                        go_wp2_with fail
                        go_ret2
                        exact ⟨ret_sign (c := 11) (n := 2) HS4.out rfl rfl, hB.trans ((below_drew hbl).mono hB.size)⟩
                    · have eb : ((s[k + 1].toNat : Int) == (((⟨#[97, 98, 102, 110, 114, 116, 118]⟩ : ByteArray)[6]'(by decide)).toNat : Int)) = false := u8_no 118 (by omega) hx
                      have HQ' : Hid (∀ i, i < 7 → s[k + 1] ≠ sgn[i]?.getD 0) := fun i hi => by
                        rcases Nat.lt_or_ge i 6 with h | h
                        · exact HQ.out i h
                        · obtain rfl : i = 6 := by omega
                          exact hx
                      clear HQ hx
                      go_wp2_with fail
                      go_region
                      all_goals
                        go_wp2_with fail
                        exact ⟨⟨7, by omega, by go_num, HQ', below_drew hbl⟩, by simp [intOf]⟩
                · obtain rfl : q = 7 := by omega
                  have HS4 : Hid (P = (s[k + 1], 2)) := by show P = _; rw [HS3.out, codeS_no HQ.out]
                  clear HS3 hlt
                  go_wp2_with fail
                  go_ret2
                  exact ⟨ret_sign HS4.out rfl rfl, hB.trans (hbl.mono hB.size)⟩
            · have p1 : (48 : Int) ≤ (s[k + 1].toNat : Int) := by omega
              have p3 : (55 : Int) < (s[k + 1].toNat : Int) := by omega
              go_wp2_with fail
              have hB : Below w.heap.size w (w.alloc (.cells codA 72)) := (Below.refl _ w).alloc (Nat.le_refl _) _
              have HC : Hid (∀ i, i < 7 → (w.alloc (.cells codA 72)).cell? ⟨w.heap.size, i, none⟩ = some (.int .u8 (((cod[i]?).getD 0).toNat : Int))) := fun i hi => cod_cell w hi
              have e : (Obj.cells #[.int .u8 7, .int .u8 8, .int .u8 12, .int .u8 10, .int .u8 13, .int .u8 9, .int .u8 11] 72) = .cells codA 72 := rfl
              rw [e]
              clear e
              have hWl : w.heap.size < (w.alloc (.cells codA 72)).heap.size := by simp
              generalize w.alloc (.cells codA 72) = W at hB HC hWl ⊢
              generalize Value.agg #[.int .u8 7, .int .u8 8, .int .u8 12, .int .u8 10, .int .u8 13, .int .u8 9, .int .u8 11] = AG
              go_loopw [10] (fun i wr => ∃ q : Nat, q ≤ 7 ∧ i = .int .i64 q ∧ Hid (∀ i, i < q → s[k + 1] ≠ sgn[i]?.getD 0) ∧ Below W.heap.size W wr) (fun i _ => 7 - (intOf i).toNat)
              case atStart => exact ⟨0, by omega, rfl, (show ∀ i, i < 0 → _ from fun i hi => absurd hi (by omega)), Below.refl _ _⟩
              case round =>
                obtain ⟨q, hq, rfl, HQ, hbl⟩ := hrel
                by_cases hlt : q < 7
                · rcases seven hlt with rfl | rfl | rfl | rfl | rfl | rfl | rfl
                  · have hcx : wr.cell? ⟨w.heap.size, 0, none⟩ = some (.int .u8 7) := (hbl.cell (p := ⟨w.heap.size, 0, none⟩) hWl).trans (HC.out 0 (by omega))
                    by_cases hx : s[k + 1] = 97
                    · have eb : ((s[k + 1].toNat : Int) == (((⟨#[97, 98, 102, 110, 114, 116, 118]⟩ : ByteArray)[0]'(by decide)).toNat : Int)) = true := u8_yes 97 (by omega) hx
                      have HS4 : Hid (P = (7, 2)) := by show P = _; rw [HS3.out, hx]; rfl
                      clear HS3 hx HQ
                      go_wp2_with fail
                      go_region
                      all_goals
                        go_wp2_with fail
                        go_ret2
                        exact ⟨ret_sign (c := 7) (n := 2) HS4.out rfl rfl, hB.trans ((below_drew hbl).mono hB.size)⟩
                    · have eb : ((s[k + 1].toNat : Int) == (((⟨#[97, 98, 102, 110, 114, 116, 118]⟩ : ByteArray)[0]'(by decide)).toNat : Int)) = false := u8_no 97 (by omega) hx
                      have HQ' : Hid (∀ i, i < 1 → s[k + 1] ≠ sgn[i]?.getD 0) := fun i hi => by
                        rcases Nat.lt_or_ge i 0 with h | h
                        · exact HQ.out i h
                        · obtain rfl : i = 0 := by omega
                          exact hx
                      clear HQ hx
                      go_wp2_with fail
                      go_region
                      all_goals
                        go_wp2_with fail
                        exact ⟨⟨1, by omega, by go_num, HQ', below_drew hbl⟩, by simp [intOf]⟩
                  · have hcx : wr.cell? ⟨w.heap.size, 1, none⟩ = some (.int .u8 8) := (hbl.cell (p := ⟨w.heap.size, 1, none⟩) hWl).trans (HC.out 1 (by omega))
                    by_cases hx : s[k + 1] = 98
                    · have eb : ((s[k + 1].toNat : Int) == (((⟨#[97, 98, 102, 110, 114, 116, 118]⟩ : ByteArray)[1]'(by decide)).toNat : Int)) = true := u8_yes 98 (by omega) hx
                      have HS4 : Hid (P = (8, 2)) := by show P = _; rw [HS3.out, hx]; rfl
                      clear HS3 hx HQ
                      go_wp2_with fail
                      go_region
                      all_goals
                        go_wp2_with fail
                        go_ret2
                        exact ⟨ret_sign (c := 8) (n := 2) HS4.out rfl rfl, hB.trans ((below_drew hbl).mono hB.size)⟩
                    · have eb : ((s[k + 1].toNat : Int) == (((⟨#[97, 98, 102, 110, 114, 116, 118]⟩ : ByteArray)[1]'(by decide)).toNat : Int)) = false := u8_no 98 (by omega) hx
                      have HQ' : Hid (∀ i, i < 2 → s[k + 1] ≠ sgn[i]?.getD 0) := fun i hi => by
                        rcases Nat.lt_or_ge i 1 with h | h
                        · exact HQ.out i h
                        · obtain rfl : i = 1 := by omega
                          exact hx
                      clear HQ hx
                      go_wp2_with fail
                      go_region
                      all_goals
                        go_wp2_with fail
                        exact ⟨⟨2, by omega, by go_num, HQ', below_drew hbl⟩, by simp [intOf]⟩
                  · have hcx : wr.cell? ⟨w.heap.size, 2, none⟩ = some (.int .u8 12) := (hbl.cell (p := ⟨w.heap.size, 2, none⟩) hWl).trans (HC.out 2 (by omega))
                    by_cases hx : s[k + 1] = 102
                    · have eb : ((s[k + 1].toNat : Int) == (((⟨#[97, 98, 102, 110, 114, 116, 118]⟩ : ByteArray)[2]'(by decide)).toNat : Int)) = true := u8_yes 102 (by omega) hx
                      have HS4 : Hid (P = (12, 2)) := by show P = _; rw [HS3.out, hx]; rfl
                      clear HS3 hx HQ
                      go_wp2_with fail
                      go_region
                      all_goals
                        go_wp2_with fail
                        go_ret2
                        exact ⟨ret_sign (c := 12) (n := 2) HS4.out rfl rfl, hB.trans ((below_drew hbl).mono hB.size)⟩
                    · have eb : ((s[k + 1].toNat : Int) == (((⟨#[97, 98, 102, 110, 114, 116, 118]⟩ : ByteArray)[2]'(by decide)).toNat : Int)) = false := u8_no 102 (by omega) hx
                      have HQ' : Hid (∀ i, i < 3 → s[k + 1] ≠ sgn[i]?.getD 0) := fun i hi => by
                        rcases Nat.lt_or_ge i 2 with h | h
                        · exact HQ.out i h
                        · obtain rfl : i = 2 := by omega
                          exact hx
                      clear HQ hx
                      go_wp2_with fail
                      go_region
                      all_goals
                        go_wp2_with fail
                        exact ⟨⟨3, by omega, by go_num, HQ', below_drew hbl⟩, by simp [intOf]⟩
                  · have hcx : wr.cell? ⟨w.heap.size, 3, none⟩ = some (.int .u8 10) := (hbl.cell (p := ⟨w.heap.size, 3, none⟩) hWl).trans (HC.out 3 (by omega))
                    by_cases hx : s[k + 1] = 110
                    · have eb : ((s[k + 1].toNat : Int) == (((⟨#[97, 98, 102, 110, 114, 116, 118]⟩ : ByteArray)[3]'(by decide)).toNat : Int)) = true := u8_yes 110 (by omega) hx
                      have HS4 : Hid (P = (10, 2)) := by show P = _; rw [HS3.out, hx]; rfl
                      clear HS3 hx HQ
                      go_wp2_with fail
                      go_region
                      all_goals
                        go_wp2_with fail
                        go_ret2
                        exact ⟨ret_sign (c := 10) (n := 2) HS4.out rfl rfl, hB.trans ((below_drew hbl).mono hB.size)⟩
                    · have eb : ((s[k + 1].toNat : Int) == (((⟨#[97, 98, 102, 110, 114, 116, 118]⟩ : ByteArray)[3]'(by decide)).toNat : Int)) = false := u8_no 110 (by omega) hx
                      have HQ' : Hid (∀ i, i < 4 → s[k + 1] ≠ sgn[i]?.getD 0) := fun i hi => by
                        rcases Nat.lt_or_ge i 3 with h | h
                        · exact HQ.out i h
                        · obtain rfl : i = 3 := by omega
                          exact hx
                      clear HQ hx
                      go_wp2_with fail
                      go_region
                      all_goals
                        go_wp2_with fail
                        exact ⟨⟨4, by omega, by go_num, HQ', below_drew hbl⟩, by simp [intOf]⟩
                  · have hcx : wr.cell? ⟨w.heap.size, 4, none⟩ = some (.int .u8 13) := (hbl.cell (p := ⟨w.heap.size, 4, none⟩) hWl).trans (HC.out 4 (by omega))
                    by_cases hx : s[k + 1] = 114
                    · have eb : ((s[k + 1].toNat : Int) == (((⟨#[97, 98, 102, 110, 114, 116, 118]⟩ : ByteArray)[4]'(by decide)).toNat : Int)) = true := u8_yes 114 (by omega) hx
                      have HS4 : Hid (P = (13, 2)) := by show P = _; rw [HS3.out, hx]; rfl
                      clear HS3 hx HQ
                      go_wp2_with fail
                      go_region
                      all_goals
                        go_wp2_with fail
                        go_ret2
                        exact ⟨ret_sign (c := 13) (n := 2) HS4.out rfl rfl, hB.trans ((below_drew hbl).mono hB.size)⟩
                    · have eb : ((s[k + 1].toNat : Int) == (((⟨#[97, 98, 102, 110, 114, 116, 118]⟩ : ByteArray)[4]'(by decide)).toNat : Int)) = false := u8_no 114 (by omega) hx
                      have HQ' : Hid (∀ i, i < 5 → s[k + 1] ≠ sgn[i]?.getD 0) := fun i hi => by
                        rcases Nat.lt_or_ge i 4 with h | h
                        · exact HQ.out i h
                        · obtain rfl : i = 4 := by omega
                          exact hx
                      clear HQ hx
                      go_wp2_with fail
                      go_region
                      all_goals
                        go_wp2_with fail
                        exact ⟨⟨5, by omega, by go_num, HQ', below_drew hbl⟩, by simp [intOf]⟩
                  · have hcx : wr.cell? ⟨w.heap.size, 5, none⟩ = some (.int .u8 9) := (hbl.cell (p := ⟨w.heap.size, 5, none⟩) hWl).trans (HC.out 5 (by omega))
                    by_cases hx : s[k + 1] = 116
                    · have eb : ((s[k + 1].toNat : Int) == (((⟨#[97, 98, 102, 110, 114, 116, 118]⟩ : ByteArray)[5]'(by decide)).toNat : Int)) = true := u8_yes 116 (by omega) hx
                      have HS4 : Hid (P = (9, 2)) := by show P = _; rw [HS3.out, hx]; rfl
                      clear HS3 hx HQ
                      go_wp2_with fail
                      go_region
                      all_goals
                        go_wp2_with fail
                        go_ret2
                        exact ⟨ret_sign (c := 9) (n := 2) HS4.out rfl rfl, hB.trans ((below_drew hbl).mono hB.size)⟩
                    · have eb : ((s[k + 1].toNat : Int) == (((⟨#[97, 98, 102, 110, 114, 116, 118]⟩ : ByteArray)[5]'(by decide)).toNat : Int)) = false := u8_no 116 (by omega) hx
                      have HQ' : Hid (∀ i, i < 6 → s[k + 1] ≠ sgn[i]?.getD 0) := fun i hi => by
                        rcases Nat.lt_or_ge i 5 with h | h
                        · exact HQ.out i h
                        · obtain rfl : i = 5 := by omega
                          exact hx
                      clear HQ hx
                      go_wp2_with fail
                      go_region
                      all_goals
                        go_wp2_with fail
                        exact ⟨⟨6, by omega, by go_num, HQ', below_drew hbl⟩, by simp [intOf]⟩
                  · have hcx : wr.cell? ⟨w.heap.size, 6, none⟩ = some (.int .u8 11) := (hbl.cell (p := ⟨w.heap.size, 6, none⟩) hWl).trans (HC.out 6 (by omega))
                    by_cases hx : s[k + 1] = 118
                    · have eb : ((s[k + 1].toNat : Int) == (((⟨#[97, 98, 102, 110, 114, 116, 118]⟩ : ByteArray)[6]'(by decide)).toNat : Int)) = true := u8_yes 118 (by omega) hx
                      have HS4 : Hid (P = (11, 2)) := by show P = _; rw [HS3.out, hx]; rfl
                      clear HS3 hx HQ
                      go_wp2_with fail
                      go_region
                      all_goals
                        go_wp2_with fail
                        go_ret2
                        exact ⟨ret_sign (c := 11) (n := 2) HS4.out rfl rfl, hB.trans ((below_drew hbl).mono hB.size)⟩
                    · have eb : ((s[k + 1].toNat : Int) == (((⟨#[97, 98, 102, 110, 114, 116, 118]⟩ : ByteArray)[6]'(by decide)).toNat : Int)) = false := u8_no 118 (by omega) hx
                      have HQ' : Hid (∀ i, i < 7 → s[k + 1] ≠ sgn[i]?.getD 0) := fun i hi => by
                        rcases Nat.lt_or_ge i 6 with h | h
                        · exact HQ.out i h
                        · obtain rfl : i = 6 := by omega
                          exact hx
                      clear HQ hx
                      go_wp2_with fail
                      go_region
                      all_goals
                        go_wp2_with fail
                        exact ⟨⟨7, by omega, by go_num, HQ', below_drew hbl⟩, by simp [intOf]⟩
                · obtain rfl : q = 7 := by omega
                  have HS4 : Hid (P = (s[k + 1], 2)) := by show P = _; rw [HS3.out, codeS_no HQ.out]
                  clear HS3 hlt
                  go_wp2_with fail
                  go_ret2
                  exact ⟨ret_sign HS4.out rfl rfl, hB.trans (hbl.mono hB.size)⟩
            · omega
            · omega
    · have n2 : ((k : Int) + 1 == (s.size : Int)) = true := by rw [beq_iff_eq]; omega
      have hS := signS_one HD.out (.inr (by_drop_end s (k + 1) (by omega)))
      rw [h1] at hS
      have HS := Lib.hid hS
      clear hS
      generalize signS (s.data.toList.drop k) = P at HS ⊢
      clear HD
      go_enter Tryz.func18, Tryz.ntmps18
      go_wp2_with fail
      go_ret2
      exact ⟨ret_sign HS.out rfl rfl, Below.refl _ _⟩
  · have e1 : ((s[k].toNat : Int) != 92) = true := by have q : ((s[k].toNat : Int) == 92) = false := u8_no 92 (by omega) h1; rw [bne, q]; rfl
    have HS := Lib.hid (signS_one HD.out (.inl h1))
    generalize signS (s.data.toList.drop k) = P at HS ⊢
    clear HD h1
    go_enter Tryz.func18, Tryz.ntmps18
    go_wp2_with fail
    go_ret2
    exact ⟨ret_sign HS.out rfl rfl, Below.refl _ _⟩
end Go.Proofs.YtfkoehfkiommpaaGreatDoor.Tr
