/- The contracts of the document's options. -/
import Derived.Test.YtgppaclfgekknaaOBase
namespace Go.Proofs.Ytgppaclfgekknaa
open Go.RowKit

theorem u8_beq (a b : UInt8) : ((a.toNat : Int) == (b.toNat : Int)) = decide (a = b) := by
  rw [Bool.eq_iff_iff]; simp only [beq_iff_eq, decide_eq_true_eq, ← UInt8.toNat_inj]; omega
theorem u8_lit (a : UInt8) (n : Nat) (h : n < 256) : ((a.toNat : Int) == (n : Int)) = decide (a = UInt8.ofNat n) := by
  have := u8_beq a (UInt8.ofNat n)
  rw [show (UInt8.ofNat n).toNat = n from by simp; omega] at this
  exact this
theorem u8_no {a : UInt8} (n : Nat) (h : n < 256) (hne : a ≠ UInt8.ofNat n) : ((a.toNat : Int) == (n : Int)) = false := by rw [u8_lit a n h]; simpa using hne
theorem u8_yes {a : UInt8} (n : Nat) (h : n < 256) (he : a = UInt8.ofNat n) : ((a.toNat : Int) == (n : Int)) = true := by rw [u8_lit a n h]; simpa using he
theorem by_drop (s : ByteArray) (k : Nat) (h : k < s.size) : s.data.toList.drop k = s[k] :: s.data.toList.drop (k + 1) := by
  rw [List.drop_eq_getElem_cons (by exact h)]; rfl
theorem by_drop_end (s : ByteArray) (k : Nat) (h : s.size ≤ k) : s.data.toList.drop k = [] := List.drop_eq_nil_of_le h
theorem by_at (s : ByteArray) (k : Nat) (h : k < s.size) : s.data.toList[k]? = some s[k] := by
  rw [Array.getElem?_toList]; exact Array.getElem?_eq_getElem h

set_option maxHeartbeats 1000000 in
set_option maxRecDepth 100000 in
theorem kind_c (spec : ByteArray) (c : UInt8) (w : World) (hs : spec.size ≤ 2097152) :
    Calls Try.prog 15 #[.string spec, .int .u8 (c.toNat : Int)] w fun e w' => e = .returned (.int .i64 (kindS spec c : Int)) ∧ w' = w := by
  by_cases h1 : c = 58
  · subst h1
    go_enter Try.func15, Try.ntmps15
    go_wp2
    go_ret
    exact ⟨rfl, rfl⟩
  by_cases h2 : c = 45
  · subst h2
    go_enter Try.func15, Try.ntmps15
    go_wp2
    go_ret
    exact ⟨rfl, rfl⟩
  have HK := Lib.hid (show kindS spec c = kindL c spec.data.toList from by unfold kindS; rw [if_neg (by simp [h1, h2])])
  have b1 : ((c.toNat : Int) == 58) = false := u8_no 58 (by omega) h1
  have b2 : ((c.toNat : Int) == 45) = false := u8_no 45 (by omega) h2
  clear h1 h2
  generalize kindS spec c = KK at HK ⊢
  go_enter Try.func15, Try.ntmps15
  go_wp2
  go_loop [5] (fun i => ∃ k : Nat, k ≤ spec.size ∧ i = .int .i64 k ∧ Hid (KK = kindL c (spec.data.toList.drop k))) (fun i => spec.size - (intOf i).toNat)
  case atStart => exact ⟨0, by omega, rfl, by rw [List.drop_zero]; exact HK⟩
  case round =>
    obtain ⟨k, hk, rfl, HI⟩ := hrel
    clear HK
    by_cases hlt : k < spec.size
    · have HJ := HI.out
      rw [by_drop spec k hlt, kindL] at HJ
      clear HI
      by_cases hx : spec[k] = c
      · have hb : (((spec[k]).toNat : Int) == (c.toNat : Int)) = true := by rw [u8_beq]; simpa using hx
        rw [if_pos hx] at HJ
        clear hx
        by_cases hl2 : k + 1 < spec.size
        · rw [by_drop spec (k + 1) hl2, List.head?_cons] at HJ
          by_cases hy : spec[k + 1] = 58
          · have hc : (((spec[k + 1]).toNat : Int) == 58) = true := u8_yes 58 (by omega) hy
            rw [if_pos (by rw [hy])] at HJ
            clear hy
            subst HJ
            go_wp2
            go_ret
            exact ⟨rfl, rfl⟩
          · have hc : (((spec[k + 1]).toNat : Int) == 58) = false := u8_no 58 (by omega) hy
            rw [if_neg (fun e => hy (Option.some.inj e))] at HJ
            clear hy
            subst HJ
            go_wp2
            go_ret
            exact ⟨rfl, rfl⟩
        · rw [by_drop_end spec (k + 1) (by omega), if_neg (by simp)] at HJ
          subst HJ
          go_wp2
          go_ret
          exact ⟨rfl, rfl⟩
      · have hb : (((spec[k]).toNat : Int) == (c.toNat : Int)) = false := by rw [u8_beq]; simpa using hx
        rw [if_neg hx] at HJ
        have HJ' := Lib.hid HJ
        clear hx HJ
        go_wp2
        exact ⟨⟨k + 1, by omega, by go_num, HJ'⟩, by simp [intOf]; omega⟩
    · have HJ := HI.out
      rw [by_drop_end spec k (by omega), kindL] at HJ
      clear HI
      subst HJ
      go_wp2
      go_ret
      exact ⟨rfl, rfl⟩

theorem ne_dashes {a : ByteArray} (h : a ≠ dashes) : (a.toList == [45, 45]) = false := by
  rw [beq_eq_false_iff_ne, ByteArray.toList_eq]
  intro e
  apply h
  cases a with | mk d => simp only [dashes]; congr; rw [← Array.toList_inj]; exact e
/-- Options in memory of their own. -/
abbrev OptsAt (w : World) (base : Nat) (v : Value) (l : Opts) : Prop := w.ownsRow base 35 2 v l.length (optCells l)

theorem opt_cells {w : World} {base g cap n : Nat} {l : Opts} (h : w.ownsRow base 35 2 (.slice (some ⟨g, 0, none⟩) n cap) n (optCells l)) (hn : n = l.length) (j : Nat) (hj : j < n) : w.cell? ⟨g, j * 2, none⟩ = some (.int .u8 ((nthO l j).1.toNat : Int)) ∧ w.cell? ⟨g, j * 2 + 1, none⟩ = some (.string (nthO l j).2) := by
  have := optCells_at l j (by omega)
  rw [own_cell2 h (j * 2) (by omega), own_cell2 h (j * 2 + 1) (by omega)]
  exact this

theorem hasS_step (l : Opts) (c : UInt8) (k : Nat) (h : k < l.length) : hasS (l.drop k) c = ((nthO l k).1 == c || hasS (l.drop (k + 1)) c) := by
  rw [List.drop_eq_getElem_cons h]; unfold hasS; rw [List.any_cons]; simp [nthO, h]

set_option maxHeartbeats 1000000 in
set_option maxRecDepth 100000 in
theorem refHas_c (base : Nat) (v : Value) (l : Opts) (c : UInt8) (w : World) (hl : l.length ≤ 2097152) (hO : OptsAt w base v l) :
    Calls Try.prog 10 #[v, .int .u8 (c.toNat : Int)] w fun e w' => e = .returned (.bool (hasS l c)) ∧ w' = w := by
  obtain ⟨xa, cap, rfl⟩ := own_slice2 hO
  unfold OptsAt at hO
  have HR := Lib.hid (show hasS l c = hasS (l.drop 0) c from by rw [List.drop_zero])
  generalize hasS l c = R at HR ⊢
  generalize hn : l.length = n at hl hO ⊢
  have HO := Lib.hid hO
  have HN := Lib.hid hn
  clear hO hn
  go_enter Try.func10, Try.ntmps10
  go_wp2
  go_loop [5] (fun i => ∃ k : Nat, k ≤ n ∧ i = .int .i64 k ∧ Hid (R = hasS (l.drop k) c)) (fun i => n - (intOf i).toNat)
  case atStart => exact ⟨0, by omega, rfl, HR⟩
  case round =>
    obtain ⟨k, hk, rfl, HI⟩ := hrel
    clear HR
    by_cases hlt : k < n
    · obtain ⟨g, rfl⟩ := own_some2 HO.out (by omega)
      obtain ⟨c0, c1⟩ := opt_cells HO.out HN.out.symm k hlt
      have HJ := HI.out
      rw [hasS_step l c k (by rw [HN.out]; exact hlt)] at HJ
      clear HI
      generalize nthO l k = p at c0 c1 HJ
      obtain ⟨x, y⟩ := p
      by_cases hx : x = c
      · subst hx
        have hb : ((x.toNat : Int) == (x.toNat : Int)) = true := by simp
        have HJ' : Hid (R = true) := by show R = true; rw [HJ]; simp
        clear HJ
        go_wp2
        go_ret
        exact ⟨by have e := HJ'.out; subst e; rfl, rfl⟩
      · have hb : ((x.toNat : Int) == (c.toNat : Int)) = false := by rw [u8_beq]; simpa using hx
        have HJ' : Hid (R = hasS (l.drop (k + 1)) c) := by show R = _; rw [HJ]; simp [hx]
        clear HJ hx
        go_wp2
        exact ⟨⟨k + 1, by omega, by go_num, HJ'⟩, by simp [intOf]; omega⟩
    · have HJ : Hid (R = false) := by
        have := HI.out
        rw [List.drop_eq_nil_of_le (by rw [HN.out]; omega)] at this
        exact this
      have hI : ¬ ((k : Int) < (n : Int)) := by omega
      go_wp2
      go_ret
      exact ⟨by have e := HJ.out; subst e; rfl, rfl⟩

theorem lastS_step (l : Opts) (c : UInt8) (k : Nat) (h : k < l.length) : lastS (l.take (k + 1)) c = if (nthO l k).1 = c then some (nthO l k).2 else lastS (l.take k) c := by
  rw [List.take_succ_eq_append_getElem h]; unfold lastS
  rw [List.reverse_append, List.reverse_singleton, List.singleton_append, List.find?_cons]
  have : nthO l k = l[k] := by simp [nthO, h]
  rw [this]
  by_cases e : l[k].1 = c
  · rw [if_pos e]; simp [e]
  · rw [if_neg e]
    have : (l[k].1 == c) = false := by simpa using e
    rw [this]
/-- What Last is answered. -/
def lastV (r : Option ByteArray) : Value := match r with | some s => .tuple #[.string s, .bool true] | none => .tuple #[.string ⟨#[]⟩, .bool false]

set_option maxHeartbeats 1000000 in
set_option maxRecDepth 100000 in
theorem refLast_c (base : Nat) (v : Value) (l : Opts) (c : UInt8) (w : World) (hl : l.length ≤ 2097152) (hO : OptsAt w base v l) :
    Calls Try.prog 12 #[v, .int .u8 (c.toNat : Int)] w fun e w' => e = .returned (lastV (lastS l c)) ∧ w' = w := by
  obtain ⟨xa, cap, rfl⟩ := own_slice2 hO
  unfold OptsAt at hO
  have HR := Lib.hid (show lastS l c = lastS (l.take l.length) c from by rw [List.take_length])
  generalize lastS l c = R at HR ⊢
  generalize hn : l.length = n at hl hO HR ⊢
  have HO := Lib.hid hO
  have HN := Lib.hid hn
  clear hO hn
  go_enter Try.func12, Try.ntmps12
  go_wp2
  go_loop [6] (fun i => ∃ k : Nat, k ≤ n ∧ i = .int .i64 ((k : Int) - 1) ∧ Hid (R = lastS (l.take k) c)) (fun i => (intOf i + 1).toNat)
  case atStart => exact ⟨n, by omega, by go_num, HR⟩
  case round =>
    obtain ⟨k, hk, rfl, HI⟩ := hrel
    clear HR
    by_cases hlt : 0 < k
    · obtain ⟨k, rfl⟩ : ∃ j, k = j + 1 := ⟨k - 1, by omega⟩
      obtain ⟨g, rfl⟩ := own_some2 HO.out (by omega)
      obtain ⟨c0, c1⟩ := opt_cells HO.out HN.out.symm k (by omega)
      have HJ := HI.out
      rw [lastS_step l c k (by rw [HN.out]; omega)] at HJ
      clear HI
      generalize nthO l k = p at c0 c1 HJ
      obtain ⟨x, y⟩ := p
      have hkk : ((k + 1 : Nat) : Int) - 1 = (k : Int) := by omega
      rw [hkk]
      clear hkk
      by_cases hx : x = c
      · subst hx
        have hb : ((x.toNat : Int) == (x.toNat : Int)) = true := by simp
        have HJ' : Hid (R = some y) := by show R = _; rw [HJ]; simp
        clear HJ
        go_wp2
        go_ret2
        exact ⟨by have e := HJ'.out; subst e; rfl, rfl⟩
      · have hb : ((x.toNat : Int) == (c.toNat : Int)) = false := by rw [u8_beq]; simpa using hx
        have HJ' : Hid (R = lastS (l.take k) c) := by show R = _; rw [HJ]; simp [hx]
        clear HJ hx
        go_wp2
        exact ⟨⟨k, by omega, by go_num, HJ'⟩, by simp [intOf] <;> omega⟩
    · obtain rfl : k = 0 := by omega
      have HJ : Hid (R = none) := by
        have := HI.out
        exact this
      go_wp2
      go_ret2
      exact ⟨by have e := HJ.out; subst e; rfl, rfl⟩
/-- What Parse is answered, over memory as it was at w. -/
def Told (w : World) (r : Option (Opts × List ByteArray)) (e : Ending) (w' : World) : Prop :=
  match r with
  | none => e = .returned (.tuple #[.slice none 0 0, .slice none 0 0, .int .i64 19])
  | some p => ∃ lv ov, e = .returned (.tuple #[lv, ov, .int .i64 0]) ∧ OptsAt w' w.heap.size lv p.1 ∧ StrsAt w' ov p.2

theorem opts_snoc {w : World} {base : Nat} {v : Value} {l : Opts} {c : UInt8} {s : ByteArray} (h : w.ownsRow base 35 2 v (l.length + 1) (optCells l ++ [.int .u8 (c.toNat : Int), .string s])) : OptsAt w base v (l ++ [(c, s)]) := by
  unfold OptsAt; rw [optCells_snoc, List.length_append]; exact h
theorem by_tail (a : ByteArray) (k : Nat) : a.extract k a.size = ⟨(a.data.toList.drop k).toArray⟩ := by
  apply ByteArray.ext
  rw [ByteArray.data_extract, ← Array.toList_inj, Array.toList_extract]
  simp only [List.extract]
  exact List.take_of_length_le (by rw [List.length_drop]; exact Nat.le_refl _)
theorem cell_two_new (w : World) (x y : Value) (T : Nat) : ∀ j u, [x, y][j]? = some u → (w.alloc (.cells #[x, y] T)).cell? ((⟨w.heap.size, 0, none⟩ : Addr).add j) = some u := by
  intro j u h
  have hh : (w.alloc (.cells #[x, y] T)).heap[w.heap.size]? = some (.cells #[x, y] T) := by show (w.heap.push _)[w.heap.size]? = _; simp
  rw [Addr.add_lit]
  simp only [World.cell?, hh]
  match j with
  | 0 => simpa using h
  | 1 => simpa using h
  | j + 2 => simp at h
theorem strs_cut {w : World} {b off cap n k : Nat} {args : List ByteArray} (hn : args.length = n) (hk : k ≤ n) (hlc : n ≤ cap) (hcap : cap ≤ 9223372036854775807) (hb : b < w.heap.size) (hc : ∀ j, j < n → w.cell? ⟨b, off + j, none⟩ = some (.string (nth args j))) : StrsAt w (.slice (some ⟨b, off + k, none⟩) (n - k) (cap - k)) (args.drop k) := by
  refine .inr ⟨b, off + k, cap - k, by rw [List.length_drop, hn], by rw [List.length_drop, hn]; omega, hb, fun j hj => ?_⟩
  rw [List.length_drop, hn] at hj
  rw [Nat.add_assoc, hc (k + j) (by omega), nth_drop]
theorem strs_end {w : World} {b off n k : Nat} {args : List ByteArray} (hn : args.length = n) (hk : n ≤ k) (hb : b < w.heap.size) : StrsAt w (.slice (some ⟨b, off, none⟩) 0 0) (args.drop k) := by
  have : args.drop k = [] := List.drop_eq_nil_of_le (by omega)
  rw [this]
  exact .inr ⟨b, off, 0, rfl, by simp, hb, fun j hj => by simp at hj⟩
theorem cells_below {w wr : World} {b off n : Nat} {args : List ByteArray} (hbl : Below w.heap.size w wr) (hb : b < w.heap.size) (hc : ∀ j, j < n → w.cell? ⟨b, off + j, none⟩ = some (.string (nth args j))) : ∀ j, j < n → wr.cell? ⟨b, off + j, none⟩ = some (.string (nth args j)) := fun j hj => (hbl.cell (p := ⟨b, off + j, none⟩) hb).trans (hc j hj)

set_option maxHeartbeats 4000000 in
set_option maxRecDepth 100000 in
theorem refParse_some (b off cap : Nat) (args : List ByteArray) (spec : ByteArray) (w : World) (hs : spec.size ≤ 2097152) (ht : tot args ≤ 2097152) (hlen : args.length ≤ 2097152) (hlc : args.length ≤ cap) (hcap : cap ≤ 9223372036854775807) (hb : b < w.heap.size) (hc : ∀ j, j < args.length → w.cell? ⟨b, off + j, none⟩ = some (.string (nth args j))) :
    Calls Try.prog 7 #[.slice (some ⟨b, off, none⟩) args.length cap, .string spec] w fun e w' => Told w (parseS spec [] args) e w' ∧ Below w.heap.size w w' := by
  obtain ⟨i0, hi, hz0, hz1, hz2⟩ := info_parts2 info_opt
  have HC := Lib.hid hc
  clear hc
  have HR := Lib.hid (show parseS spec [] args = parseS spec [] (args.drop 0) from by rw [List.drop_zero])
  have HT := Lib.hid (show ([] : Opts).length + tot (args.drop 0) ≤ 2097152 from by simpa using ht)
  generalize parseS spec [] args = R at HR ⊢
  clear ht
  generalize hn : args.length = n at hlen hlc HC ⊢
  have HN := Lib.hid hn
  clear hn
  go_enter Try.func7, Try.ntmps7
  go_wp2
  go_loopw [7, 8] (fun lv i wr => ∃ (k : Nat) (l : Opts), k ≤ n ∧ i = .int .i64 k ∧ Hid (R = parseS spec l (args.drop k)) ∧ Hid (l.length + tot (args.drop k) ≤ 2097152) ∧ Hid (OptsAt wr w.heap.size lv l) ∧ Below w.heap.size w wr) (fun _ i _ => n - (intOf i).toNat)
  case atStart => exact ⟨0, [], by omega, rfl, HR, HT, World.ownsRow_nil _ _ _ _, Below.refl _ _⟩
  case round =>
    obtain ⟨k, l, hk, rfl, HI, HM, HO, hbl⟩ := hrel
    clear HR HT
    have HCr := Lib.hid (cells_below hbl hb HC.out)
    have hbr : b < wr.heap.size := Nat.lt_of_lt_of_le hb hbl.size
    by_cases hlt : k < n
    · have hcx : wr.cell? ⟨b, off + k, none⟩ = some (.string (nth args k)) := HCr.out k hlt
      have HJ := HI.out
      have HT := HM.out
      rw [drop_nth args k (by rw [HN.out]; exact hlt)] at HJ HT
      rw [tot_cons] at HT
      have HQ := Lib.hid (drop_nth args k (by rw [HN.out]; exact hlt))
      clear HI HM
      generalize nth args k = a at hcx HJ HT HQ
      by_cases hdd : a = dashes
      · rw [parseS_dd _ _ _ _ hdd] at HJ
        subst hdd
        unfold dashes at hcx
        have HJ' := Lib.hid HJ
        clear HJ HT HQ
        go_wp2
        by_cases hck : cap = k + 1
        · have HE : Hid (StrsAt wr (.slice (some ⟨b, off, none⟩) 0 0) (args.drop (k + 1))) := strs_end HN.out (by omega) hbr
          subst hck
          go_region
          go_wp2
          go_ret3
          have e := HJ'.out; subst e
          exact ⟨⟨_, _, rfl, HO.out, HE.out⟩, hbl.drew⟩
        · have HE : Hid (StrsAt wr (.slice (some ⟨b, off + (k + 1), none⟩) (n - (k + 1)) (cap - (k + 1))) (args.drop (k + 1))) := strs_cut HN.out (by omega) hlc hcap hbr HCr.out
          go_region
          go_wp2
          go_ret3
          have e := HJ'.out; subst e
          exact ⟨⟨_, _, rfl, HO.out, HE.out⟩, hbl.drew⟩
      · have hne : (a.toList == [45, 45]) = false := ne_dashes hdd
        by_cases h2 : a.size < 2
        · rw [parseS_stop _ _ _ _ hdd (.inl h2), ← HQ.out] at HJ
          clear hdd
          have HJ' := Lib.hid HJ
          clear HJ HT HQ
          go_wp2
          by_cases hck : cap = k
          · have HE : Hid (StrsAt wr (.slice (some ⟨b, off, none⟩) 0 0) (args.drop k)) := strs_end HN.out (by omega) hbr
            subst hck
            go_region
            go_wp2
            go_ret3
            have e := HJ'.out; subst e
            exact ⟨⟨_, _, rfl, HO.out, HE.out⟩, hbl.drew⟩
          · have HE : Hid (StrsAt wr (.slice (some ⟨b, off + k, none⟩) (n - k) (cap - k)) (args.drop k)) := strs_cut HN.out (by omega) hlc hcap hbr HCr.out
            go_region
            go_wp2
            go_ret3
            have e := HJ'.out; subst e
            exact ⟨⟨_, _, rfl, HO.out, HE.out⟩, hbl.drew⟩
        by_cases h45 : a[0]'(by omega) = 45
        · have hb0 : (((a[0]'(by omega)).toNat : Int) == 45) = true := u8_yes 45 (by omega) h45
          have hb1 : (((a[0]'(by omega)).toNat : Int) != 45) = false := by rw [bne, hb0]; rfl
          have hgo : ¬ (a.size < 2 ∨ a.data.toList.head? ≠ some 45) := by
            rw [show a.data.toList = a.data.toList.drop 0 from (List.drop_zero).symm, by_drop a 0 (by omega), h45]
            simp; omega
          rw [parseS_go _ _ _ _ hdd hgo] at HJ
          clear hdd hgo h45 HQ
          have HJ' : Hid (R = goS spec l (a.data.toList.drop 1) (args.drop (k + 1))) := HJ
          have HT' : Hid (l.length + (a.size - 1) + tot (args.drop (k + 1)) ≤ 2097152) := by show _ ≤ _; omega
          have hasz : a.size ≤ 2097153 := by have := HT'.out; omega
          clear HJ HT
          go_wp2
          go_loopw [7, 8, 10] (fun lv i kk wi => ∃ (m j : Nat) (l' : Opts), 1 ≤ m ∧ m ≤ a.size ∧ k + 1 ≤ j ∧ j ≤ n ∧ kk = .int .i64 m ∧ i = .int .i64 j ∧ Hid (R = goS spec l' (a.data.toList.drop m) (args.drop j)) ∧ Hid (l'.length + (a.size - m) + tot (args.drop j) ≤ 2097152) ∧ Hid (OptsAt wi w.heap.size lv l') ∧ Below w.heap.size w wi) (fun _ _ kk _ => a.size - (intOf kk).toNat)
          case atStart => exact ⟨1, k + 1, l, by omega, by omega, by omega, by omega, rfl, by go_num, HJ', HT', HO, hbl⟩
          case round =>
            obtain ⟨m, j, l', hm1, hm, hj1, hj, rfl, rfl, HI, HM, HO2, hbl2⟩ := hrel
            clear HJ' HT' HO hbl HCr hbr hcx
            have HCr := Lib.hid (cells_below hbl2 hb HC.out)
            by_cases hml : m < a.size
            · have HJ := HI.out
              have HT := HM.out
              rw [by_drop a m hml] at HJ
              clear HI HM
              have hkc := kind_c spec a[m] wr hs
              by_cases hk0 : kindS spec a[m] = 0
              · rw [goS_0 hk0] at HJ
                rw [hk0] at hkc
                have HJ' := Lib.hid HJ
                clear HJ HT hk0
                go_wp2_with (go_at_call 15; refine hkc.mono ?_; rintro e w' ⟨rfl, hw'⟩; rw [hw']; clear hw')
                go_ret3
                have e := HJ'.out; subst e
                exact ⟨rfl, hbl2⟩
              by_cases hk1 : kindS spec a[m] = 1
              · rw [goS_1 hk1] at HJ
                rw [hk1] at hkc
                have HJ' := Lib.hid HJ
                have hll : l'.length ≤ 2097152 := by omega
                have HT' : Hid ((l' ++ [(a[m], (⟨#[]⟩ : ByteArray))]).length + (a.size - (m + 1)) + tot (args.drop j) ≤ 2097152) := by show _ ≤ _; rw [List.length_append, List.length_singleton]; omega
                clear HJ HT hk0 hk1
                go_wp2_with (first
                  | (go_at_call 15; refine hkc.mono ?_; rintro e w' ⟨rfl, hw'⟩; rw [hw']; clear hw')
                  | (at_builtin; refine wpList_append_own _ rfl _ _ 24 rfl w.heap.size 35 i0 (.agg #[.int .u8 0, .string ⟨#[]⟩]) 2 24 Try.underlying24 hi hz0 hz1 hz2 rfl (by decide) _ _ _ rfl (HO2.out.alloc _) ⟨wr.heap.size, 0, none⟩ 1 1 [.int .u8 (a[m].toNat : Int), .string ⟨#[]⟩] rfl rfl (cell_two_new _ _ _ _) (by simp [Value.oneCell']) (by unfold maxLen; omega) (by omega) (by have := hbl2.size; simp; omega) ?_; intro v2 w2 hown2 hgrow2 _))
                have hbw2 : Below w.heap.size w w2 := (hbl2.alloc hbl2.size _).grown hgrow2 (by have := hbl2.size; simp; omega) (fun j ej => own_ge2 HO2.out j ej)
                exact ⟨⟨m + 1, j, _, by omega, by omega, hj1, hj, by go_num, rfl, HJ', HT', opts_snoc hown2, hbw2⟩, by simp [intOf]; omega⟩
              · obtain hk2 : kindS spec a[m] = 2 := by have := kindS_le spec a[m]; omega
                by_cases hm2 : m + 1 < a.size
                · rw [goS_2 hk0 hk1 (by rw [by_drop a (m + 1) hm2]; simp), ← by_tail a (m + 1)] at HJ
                  rw [hk2] at hkc
                  have HJ' := Lib.hid HJ
                  have hll : l'.length ≤ 2097152 := by omega
                  have HT' : Hid ((l' ++ [(a[m], a.extract (m + 1) a.size)]).length + tot (args.drop j) ≤ 2097152) := by show _ ≤ _; rw [List.length_append, List.length_singleton]; omega
                  have hw1 : IntKind.i64.wrap ((m : Int) + 1) = (m : Int) + 1 := IntWalk.i64_in _ (by omega)
                  have hw2 : 0 ≤ (m : Int) + 1 ∧ (m : Int) + 1 ≤ (a.size : Int) := by omega
                  have hw3 : ((m : Int) + 1).toNat = m + 1 := by omega
                  clear HJ HT hk0 hk1 hk2
                  go_wp2_with (go_at_call 15; refine hkc.mono ?_; rintro e w' ⟨rfl, hw'⟩; rw [hw']; clear hw')
                  go_region_law (refine step_append_lies _ rfl _ _ 24 rfl w.heap.size 35 i0 (.agg #[.int .u8 0, .string ⟨#[]⟩]) 2 24 Try.underlying24 hi hz0 hz1 hz2 rfl (by decide) _ l'.length (optCells l') (by simp [Act.eval]) ((show wr.drew.ownsRow _ _ _ _ _ _ from HO2.out).alloc _) ⟨wr.heap.size, 0, none⟩ 1 1 [.int .u8 (a[m].toNat : Int), .string (a.extract (m + 1) a.size)] (by simp [Act.eval]) rfl (cell_two_new wr.drew _ _ _) (by simp [Value.oneCell']) (by decide) (by unfold maxLen; omega) (by omega) (by have := hbl2.size; simp; omega) _ rfl ?_; intro g cap2 w2 hown2 hgrow2 hat hlt2)
                  simp only [Act.put, List.getElem_toArray, List.getElem_cons_succ, List.getElem_cons_zero, List.setIfInBounds_toArray, List.set_cons_succ, List.set_cons_zero]
                  go_wp2
                  have hbw2 : Below w.heap.size w w2 := (hbl2.drew.alloc hbl2.size _).grown hgrow2 (by have := hbl2.size; simp; omega) (fun j ej => own_ge2 HO2.out j ej)
                  exact ⟨⟨j, _, hj, rfl, HJ', HT', opts_snoc hown2, hbw2⟩, by simp [intOf]; omega⟩
                · have hme : m + 1 = a.size := by omega
                  rw [by_drop_end a (m + 1) (by omega)] at HJ
                  rw [hk2] at hkc
                  by_cases hjn : j < n
                  · have hcx : wr.cell? ⟨b, off + j, none⟩ = some (.string (nth args j)) := HCr.out j hjn
                    rw [drop_nth args j (by rw [HN.out]; exact hjn)] at HJ HT
                    rw [tot_cons] at HT
                    rw [goS_4 hk0 hk1] at HJ
                    generalize nth args j = sj at hcx HJ HT
                    have HJ' : Hid (R = goS spec (l' ++ [(a[m], sj)]) (a.data.toList.drop (m + 1)) (args.drop (j + 1))) := by show R = _; rw [by_drop_end a (m + 1) (by omega), goS_nil]; exact HJ
                    have hll : l'.length ≤ 2097152 := by omega
                    have HT' : Hid ((l' ++ [(a[m], sj)]).length + (a.size - (m + 1)) + tot (args.drop (j + 1)) ≤ 2097152) := by show _ ≤ _; rw [List.length_append, List.length_singleton]; omega
                    clear HJ HT hk0 hk1 hk2 hme
                    go_wp2_with (go_at_call 15; refine hkc.mono ?_; rintro e w' ⟨rfl, hw'⟩; rw [hw']; clear hw')
                    go_region_law (refine step_append_lies _ rfl _ _ 24 rfl w.heap.size 35 i0 (.agg #[.int .u8 0, .string ⟨#[]⟩]) 2 24 Try.underlying24 hi hz0 hz1 hz2 rfl (by decide) _ l'.length (optCells l') (by simp [Act.eval]) ((show wr.drew.ownsRow _ _ _ _ _ _ from HO2.out).alloc _) ⟨wr.heap.size, 0, none⟩ 1 1 [.int .u8 (a[m].toNat : Int), .string sj] (by simp [Act.eval]) rfl (cell_two_new wr.drew _ _ _) (by simp [Value.oneCell']) (by decide) (by unfold maxLen; omega) (by omega) (by have := hbl2.size; simp; omega) _ rfl ?_; intro g cap2 w2 hown2 hgrow2 hat hlt2)
                    all_goals
                      try simp only [Act.put, List.getElem_toArray, List.getElem_cons_succ, List.getElem_cons_zero, List.setIfInBounds_toArray, List.set_cons_succ, List.set_cons_zero]
                      go_wp2
                      have hbw2 : Below w.heap.size w w2 := (hbl2.drew.alloc hbl2.size _).grown hgrow2 (by have := hbl2.size; simp; omega) (fun j ej => own_ge2 HO2.out j ej)
                      exact ⟨⟨m + 1, j + 1, _, by omega, by omega, by omega, by omega, by go_num, by go_num, HJ', HT', opts_snoc hown2, hbw2⟩, by simp [intOf]; omega⟩
                  · obtain rfl : j = n := by omega
                    rw [List.drop_eq_nil_of_le (by rw [HN.out]; exact Nat.le_refl _), goS_3 hk0 hk1] at HJ
                    have HJ' := Lib.hid HJ
                    clear HJ HT hk0 hk1 hk2
                    go_wp2_with (go_at_call 15; refine hkc.mono ?_; rintro e w' ⟨rfl, hw'⟩; rw [hw']; clear hw')
                    go_ret3
                    have e := HJ'.out; subst e
                    exact ⟨rfl, hbl2⟩
            · have HJ := HI.out
              have HT := HM.out
              obtain rfl : m = a.size := by omega
              rw [by_drop_end a a.size (Nat.le_refl _), goS_nil] at HJ
              have HJ' := Lib.hid HJ
              have HT' : Hid (l'.length + tot (args.drop j) ≤ 2097152) := by show _ ≤ _; omega
              clear HI HM HJ HT
              go_wp2
              exact ⟨⟨j, l', hj, rfl, HJ', HT', HO2, hbl2⟩, by simp [intOf]; omega⟩
        · have hb0 : (((a[0]'(by omega)).toNat : Int) == 45) = false := u8_no 45 (by omega) h45
          have hb1 : (((a[0]'(by omega)).toNat : Int) != 45) = true := by rw [bne, hb0]; rfl
          rw [parseS_stop _ _ _ _ hdd (.inr (by rw [show a.data.toList = a.data.toList.drop 0 from (List.drop_zero).symm, by_drop a 0 (by omega)]; simpa using h45)), ← HQ.out] at HJ
          clear hdd h45
          have HJ' := Lib.hid HJ
          clear HJ HT HQ
          go_wp2
          by_cases hck : cap = k
          · have HE : Hid (StrsAt wr (.slice (some ⟨b, off, none⟩) 0 0) (args.drop k)) := strs_end HN.out (by omega) hbr
            subst hck
            go_region
            go_wp2
            go_ret3
            have e := HJ'.out; subst e
            exact ⟨⟨_, _, rfl, HO.out, HE.out⟩, hbl.drew⟩
          · have HE : Hid (StrsAt wr (.slice (some ⟨b, off + k, none⟩) (n - k) (cap - k)) (args.drop k)) := strs_cut HN.out (by omega) hlc hcap hbr HCr.out
            go_region
            go_wp2
            go_ret3
            have e := HJ'.out; subst e
            exact ⟨⟨_, _, rfl, HO.out, HE.out⟩, hbl.drew⟩
    · obtain rfl : k = n := by omega
      have HJ' : Hid (R = some (l, args.drop k)) := by
        have := HI.out
        rw [List.drop_eq_nil_of_le (by rw [HN.out]; exact Nat.le_refl _), parseS_nil] at this
        show R = _
        rw [List.drop_eq_nil_of_le (by rw [HN.out]; exact Nat.le_refl _)]; exact this
      clear HI HM
      go_wp2
      by_cases hck : cap = k
      · have HE : Hid (StrsAt wr (.slice (some ⟨b, off, none⟩) 0 0) (args.drop k)) := strs_end HN.out (by omega) hbr
        subst hck
        go_region
        go_wp2
        go_ret3
        have e := HJ'.out; subst e
        exact ⟨⟨_, _, rfl, HO.out, HE.out⟩, hbl.drew⟩
      · have HE : Hid (StrsAt wr (.slice (some ⟨b, off + k, none⟩) 0 (cap - k)) (args.drop k)) := by have := strs_cut HN.out (Nat.le_refl k) hlc hcap hbr HCr.out; rwa [Nat.sub_self] at this
        go_region
        go_wp2
        go_ret3
        have e := HJ'.out; subst e
        exact ⟨⟨_, _, rfl, HO.out, HE.out⟩, hbl.drew⟩
set_option maxHeartbeats 1000000 in
theorem refParse_nil (spec : ByteArray) (w : World) :
    Calls Try.prog 7 #[.slice none 0 0, .string spec] w fun e w' => Told w (parseS spec [] []) e w' ∧ Below w.heap.size w w' := by
  rw [parseS_nil]
  go_enter Try.func7, Try.ntmps7
  go_wp2
  go_loop [7, 8] (fun lv i => i = .int .i64 0 ∧ lv = .slice none 0 0) (fun _ _ => 0)
  case atStart => exact ⟨rfl, rfl⟩
  case round =>
    obtain ⟨rfl, rfl⟩ := hrel
    go_wp2
    go_region
    go_wp2
    go_ret3
    exact ⟨⟨_, _, rfl, World.ownsRow_nil _ _ _ _, .inl ⟨rfl, rfl⟩⟩, (Below.refl _ _).drew⟩

theorem refParse_c (v : Value) (args : List ByteArray) (spec : ByteArray) (w : World) (hs : spec.size ≤ 2097152) (ht : tot args ≤ 2097152) (hlen : args.length ≤ 2097152) (hA : StrsAt w v args) :
    Calls Try.prog 7 #[v, .string spec] w fun e w' => Told w (parseS spec [] args) e w' ∧ Below w.heap.size w w' := by
  rcases hA with ⟨rfl, rfl⟩ | ⟨b, off, cap, rfl, ⟨h1, h2⟩, h3, h4⟩
  · exact refParse_nil spec w
  · exact refParse_some b off cap args spec w hs ht hlen h1 h2 h3 h4
end Go.Proofs.Ytgppaclfgekknaa
