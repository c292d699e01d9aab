/- printf: digits are read as a width. -/
import Derived.Test.YteimilnecahifaaGreatDoorNDir
import Derived.Test.YteimilnecahifaaGreatDoorFPr
import Derived.Deep.Cut
import Derived.Deep.RegionHeld3
import Derived.Test.YteimilnecahifaaGreatDoorFLet
namespace Go.Proofs.YteimilnecahifaaGreatDoor.Nm
open Go.Proofs.YteimilnecahifaaGreatDoor Go.Proofs.YteimilnecahifaaGreatDoor.Op
open Go.RowKit

theorem numS_ge (l : List UInt8) : ∀ v : Nat, v ≤ numS v l := by
  induction l with
  | nil => intro v; exact Nat.le_refl _
  | cons c r ih =>
    intro v
    have h := ih (10 * v + (c.toNat - 48))
    have e : numS v (c :: r) = numS (10 * v + (c.toNat - 48)) r := rfl
    rw [e]
    exact Nat.le_trans (by omega) h
theorem dig_bounds {c : UInt8} (h : isDig c = true) : 48 ≤ c.toNat ∧ c.toNat ≤ 57 := by
  unfold isDig at h
  simp only [decide_eq_true_eq] at h
  exact ⟨UInt8.le_iff_toNat_le.1 h.1, UInt8.le_iff_toNat_le.1 h.2⟩
set_option maxRecDepth 100000 in
set_option maxHeartbeats 2000000 in
theorem readDigs (L : List UInt8) (n : Nat) (h0 : L ≠ []) (hd : ∀ c ∈ L, isDig c = true) (hn : numS 0 L = n) (hm : n ≤ 1000) (hz : L.length ≤ 2097152) (w : World) : Calls Tryz.prog 230 #[.string (bz L), .int .i64 10, .int .i64 1000] w fun e w' => e = .returned (.tuple #[.int .i64 (n : Int), .bool true]) ∧ w' = w := by
  have hem : (bz L).toList.isEmpty = false := by rw [ByteArray.toList_eq, List.isEmpty_eq_false_iff]; exact h0
  have hsz := bz_size L
  have HV := Lib.hid (And.intro hn (And.intro hm hd))
  clear h0 hd hn hm
  go_enter Tryz.func230, Tryz.ntmps230
  go_wp2
  clear hem
  go_loop [8, 15] (fun nv iv => ∃ (k v : Nat), k ≤ L.length ∧ iv = .int .i64 (k : Int) ∧ nv = .int .i64 (v : Int) ∧ v ≤ 1000 ∧ Hid (numS v (L.drop k) = n)) (fun _ iv => L.length - (intOf iv).toNat)
  case atStart => exact ⟨0, 0, by omega, rfl, rfl, by omega, Lib.hid HV.out.1⟩
  case round =>
    obtain ⟨k, v, hk, rfl, rfl, hv1, HI⟩ := hrel
    by_cases hlt : k < L.length
    · have hI := HI.out
      rw [drop_at hlt] at hI
      have hI : numS (10 * v + (L[k].toNat - 48)) (L.drop (k + 1)) = n := hI
      have hge := numS_ge (L.drop (k + 1)) (10 * v + (L[k].toNat - 48))
      have hb := dig_bounds (HV.out.2.2 L[k] (List.getElem_mem hlt))
      have hn1 := HV.out.2.1
      have hix : ∀ u : World, (Instr.index 9 (.string (bz L)) (.int .i64 (k : Int))).run Tryz.prog u = .ok (.int .u8 (L[k].toNat : Int)) u := fun u => ix_bz L k L[k] (by simp [hlt]) u
      have HN := Lib.hid hI
      clear HI hI
      generalize L[k] = c at *
      have hvd : 10 * v + (c.toNat - 48) ≤ 1000 := by have := HN.out; omega
      obtain ⟨c1, c2⟩ := hb
      have hq : decide (((1000 : Int) - ((c.toNat : Int) - 48)).tdiv 10 < (v : Int)) = false := decide_eq_false (by rw [Int.tdiv_eq_ediv_of_nonneg (by omega)]; omega)
      clear hge hn1
      go_wp2
      refine ⟨⟨k + 1, 10 * v + (c.toNat - 48), by omega, by go_num, ?_, by omega, HN⟩, by simp [intOf]; omega⟩
      rw [show ((10 * v + (c.toNat - 48) : Nat) : Int) = (v : Int) * 10 + ((c.toNat : Int) - 48) by omega]
    · have hE : v = n := by
        have h2 : numS v [] = n := by rw [← HI.out, List.drop_eq_nil_of_le (by omega)]
        exact h2
      go_wp2
      go_ret2
      exact ⟨by first | rfl | rw [hE], rfl⟩
theorem numDigs (L : List UInt8) (n : Nat) (h0 : L ≠ []) (hd : ∀ c ∈ L, isDig c = true) (hn : numS 0 L = n) (hm : n ≤ 1000) (hz : L.length ≤ 2097152) (w : World) : Calls Tryz.prog 204 #[.string (bz L), .int .i64 1000] w fun e w' => e = .returned (.tuple #[.int .i64 (n : Int), .bool true]) ∧ w' = w := by
  have h := readDigs L n h0 hd hn hm hz w
  clear hd hn h0
  go_enter Tryz.func204, Tryz.ntmps204
  go_wp2_with (go_at_call 230; refine h.mono ?_; rintro e w' ⟨rfl, hw'⟩; rw [hw']; clear hw')
  go_ret2
  exact ⟨rfl, rfl⟩
theorem digs_fin : ∀ k : Fin 256, ([48, 49, 50, 51, 52, 53, 54, 55, 56, 57] : List UInt8).contains (UInt8.ofNat k.val) = isDig (UInt8.ofNat k.val) := by decide +kernel
theorem digs_contains (c : UInt8) : ([48, 49, 50, 51, 52, 53, 54, 55, 56, 57] : List UInt8).contains c = isDig c := by
  have h := digs_fin ⟨c.toNat, c.toNat_lt⟩
  simp only [UInt8.ofNat_toNat] at h
  exact h
theorem trim_digs (L : List UInt8) : Lib.trimLeftS L [48, 49, 50, 51, 52, 53, 54, 55, 56, 57] = L.dropWhile isDig := by
  unfold Lib.trimLeftS
  congr 1
  funext c
  exact digs_contains c
set_option maxRecDepth 100000 in
set_option maxHeartbeats 2000000 in
theorem cutRoom_c {L R : List UInt8} {n : Nat} (h : upToS L = some (n, R)) (hz : L.length ≤ 2097152) (w : World) : Calls Tryz.prog 186 #[.string (bz L)] w fun e w' => e = .returned (.tuple #[.int .i64 (n : Int), .string (bz R)]) ∧ Below w.heap.size w w' := by
  have htl := Tryz.strings_TrimLeft_ascii (bz L) ⟨#[48, 49, 50, 51, 52, 53, 54, 55, 56, 57]⟩ w (by decide) (by
    intro j b hb
    have : ∀ b ∈ (⟨#[48, 49, 50, 51, 52, 53, 54, 55, 56, 57]⟩ : ByteArray).data.toList, b.toNat < 128 := by decide
    exact this b (List.mem_of_getElem? hb))
  rw [bz_list, show (⟨#[48, 49, 50, 51, 52, 53, 54, 55, 56, 57]⟩ : ByteArray).data.toList = [48, 49, 50, 51, 52, 53, 54, 55, 56, 57] from rfl, trim_digs] at htl
  have e0 : (⟨(L.dropWhile isDig).toArray⟩ : ByteArray) = bz (L.dropWhile isDig) := rfl
  rw [e0] at htl
  clear e0
  unfold upToS at h
  split at h
  · rename_i hm
    simp only [Option.some.injEq, Prod.mk.injEq] at h
    obtain ⟨rfl, rfl⟩ := h
    have hall : ∀ c ∈ L.takeWhile isDig, isDig c = true := fun c hc => mem_take hc
    have hsplit : L.length = (L.takeWhile isDig).length + (L.dropWhile isDig).length := by
      rw [← List.length_append, List.takeWhile_append_dropWhile]
    have htk : (bz L).extract 0 (L.takeWhile isDig).length = bz (L.takeWhile isDig) := by
      rw [bz_take, ← List.prefix_iff_eq_take.1 (List.takeWhile_prefix isDig)]
    have s1 := bz_size L
    have s2 := bz_size (L.dropWhile isDig)
    have hdl : (L.length : Int) - ((L.dropWhile isDig).length : Int) = ((L.takeWhile isDig).length : Int) := by omega
    by_cases h0 : L.takeWhile isDig = []
    · have hem : (bz (L.takeWhile isDig)).toList.isEmpty = true := by rw [ByteArray.toList_eq, bz_list, h0]; rfl
      have hn0 : numS 0 (L.takeWhile isDig) = 0 := by rw [h0]; rfl
      rw [hn0]
      clear hm hall h0 hn0
      generalize L.takeWhile isDig = T at *
      generalize L.dropWhile isDig = R at *
      go_enter Tryz.func186, Tryz.ntmps186
      go_wp2_with (go_at_call 203; refine htl.mono ?_; rintro e w2 ⟨rfl, hB⟩; have HB := Lib.hid hB; clear hB htl)
      go_ret2
      exact ⟨rfl, HB.out⟩
    · have hem : (bz (L.takeWhile isDig)).toList.isEmpty = false := by rw [ByteArray.toList_eq, List.isEmpty_eq_false_iff, bz_list]; exact h0
      have hnb := fun u => numDigs (L.takeWhile isDig) _ h0 hall rfl hm (by omega) u
      generalize numS 0 (L.takeWhile isDig) = n at hnb hm ⊢
      clear hall h0
      generalize L.takeWhile isDig = T at *
      generalize L.dropWhile isDig = R at *
      go_enter Tryz.func186, Tryz.ntmps186
      go_wp2_with (first | (go_at_call 203; refine htl.mono ?_; rintro e w2 ⟨rfl, hB⟩; have HB := Lib.hid hB; clear hB htl) | (go_at_call 204; refine (hnb _).mono ?_; rintro e w3 ⟨rfl, hw3⟩; rw [hw3]; clear hw3))
      go_ret2
      exact ⟨rfl, HB.out⟩
  · cases h
end Go.Proofs.YteimilnecahifaaGreatDoor.Nm

namespace Go.Proofs.YteimilnecahifaaGreatDoor.Nm
open Go.Proofs.YteimilnecahifaaGreatDoor Go.Proofs.YteimilnecahifaaGreatDoor.Op
open Go.RowKit

theorem conv_parts {l r : List UInt8} {x : Pc} (h : convP l = some (x, r)) (hx : OkPc x) : ∃ y l1 n c, flagsS {} l = (y, l1) ∧ upToS l1 = some (n, c :: r) ∧ c ≠ 46 ∧ x = { y with width := n, letter := c } := by
  unfold convP at h
  cases hf : flagsS {} l with
  | mk y l1 =>
    rw [hf] at h
    simp only at h
    cases hu : upToS l1 with
    | none => rw [hu] at h; cases h
    | some p =>
      obtain ⟨n, l2⟩ := p
      rw [hu] at h
      simp only [Option.bind_some] at h
      have hl : ∀ (z : Pc) (l : List UInt8), letterS z l = some (x, r) → ∃ c, l = c :: r ∧ x = { z with letter := c } := by
        intro z l hz
        cases l with
        | nil => cases hz
        | cons c t =>
          rw [letterS] at hz
          split at hz
          · simp only [Option.some.injEq, Prod.mk.injEq] at hz
            exact ⟨c, by rw [hz.2], hz.1.symm⟩
          · cases hz
      cases l2 with
      | nil => cases h
      | cons c t =>
        by_cases h46 : c = 46
        · subst h46
          unfold precS at h
          simp only at h
          cases hq : upToS t with
          | none => rw [hq] at h; cases h
          | some q =>
            rw [hq] at h
            simp only [Option.bind_some] at h
            obtain ⟨c2, _, e⟩ := hl _ _ h
            have := hx.prec
            rw [e] at this
            cases this
        · have e2 : precS { y with width := n } (c :: t) = letterS { y with width := n } (c :: t) := by
            unfold precS
            split
            · rename_i h2
              simp only [List.cons.injEq] at h2
              exact absurd h2.1 h46
            · rfl
          rw [e2] at h
          obtain ⟨c2, e3, e4⟩ := hl _ _ h
          simp only [List.cons.injEq] at e3
          obtain ⟨rfl, rfl⟩ := e3
          exact ⟨y, l1, n, c, rfl, hu, h46, e4⟩
theorem upTo_le {l r : List UInt8} {n : Nat} (h : upToS l = some (n, r)) : r.length ≤ l.length := by
  unfold upToS at h
  split at h
  · simp only [Option.some.injEq, Prod.mk.injEq] at h
    rw [← h.2]
    exact (List.dropWhile_sublist _).length_le
  · cases h
theorem turn_below {S : List Nat} {a b : World} {n : Nat} (h : Turn S a b) (hS : ∀ k ∈ S, n ≤ k) (hn : n ≤ a.heap.size) : Below n a b :=
  ⟨h.os, h.tape, h.output, h.size, fun k hk => h.block k (by omega) (fun e => by have := hS k e; omega)⟩
theorem idx0 (c : UInt8) (r : List UInt8) (u : World) : (Instr.index 9 (.string (bz (c :: r))) (.int .i64 0)).run Tryz.prog u = .ok (.int .u8 (c.toNat : Int)) u := ix_bz (c :: r) 0 c rfl u
theorem cons_isEmpty (c : UInt8) (r : List UInt8) : (bz (c :: r)).toList.isEmpty = false := by rw [ByteArray.toList_eq, List.isEmpty_eq_false_iff, bz_list]; simp
def strSize (v : Value) : Nat := match v with
  | .string s => s.size
  | _ => 0
theorem drop_one (c : UInt8) (r : List UInt8) : (bz (c :: r)).extract 1 (bz (c :: r)).size = bz r := bz_drop (c :: r) 1
theorem sl_one (c : UInt8) (r : List UInt8) (hr : r.length ≤ 2097152) (u : World) : (Instr.sliceAt 9 (.string (bz (c :: r))) (some (.int .i64 1)) none none).run Tryz.prog u = .ok (.string (bz r)) u := by
  have u9 := Tryz.underlying9
  have hsz : (bz (c :: r)).size = r.length + 1 := bz_size _
  have hdr := drop_one c r
  rw [hsz] at hdr
  have e2 : (1 : Int) ≤ ((r.length : Int) + 1) := by omega
  simp [Instr.sliceAt, go_sem, hsz, hdr, e2]
/-- What reading a conversion leaves. -/
def ConvOut (w : World) (x : Pc) (r : List UInt8) (e : Ending) (w' : World) : Prop := ∃ v S1, e = .returned (.tuple #[v, .string (bz r)]) ∧ (∃ f y z, v = .func f y z) ∧ PartAt w' S1 v x ∧ (∀ b ∈ S1, w.heap.size ≤ b ∧ b < w'.heap.size ∧ ∃ cs T, w'.heap[b]? = some (.cells cs T) ∧ T ≠ 254) ∧ Below w.heap.size w w'
set_option maxRecDepth 100000 in
set_option maxHeartbeats 8000000 in
theorem readConv_c {l r : List UInt8} {x : Pc} (h : convP l = some (x, r)) (hx : OkPc x) (hz : l.length ≤ 2097152) (w : World) : Calls Tryz.prog 153 #[.string (bz l)] w (ConvOut w x r) := by
  obtain ⟨y, l1, n, c, hf, hu, h46, hxe⟩ := conv_parts h hx
  have HH := Lib.hid (And.intro hf (And.intro hu (And.intro h46 (And.intro hxe hx))))
  have hmk : (w.alloc (.cells #[.bool false, .bool false, .bool false, .bool false, .bool false, .int .i64 0, .int .i64 (-1)] 283)).heap[w.heap.size]? = some (.cells #[.bool false, .bool false, .bool false, .bool false, .bool false, .int .i64 0, .int .i64 (-1)] 283) := al_new _ _
  have hmB : Below w.heap.size w (w.alloc (.cells #[.bool false, .bool false, .bool false, .bool false, .bool false, .int .i64 0, .int .i64 (-1)] 283)) := (Below.refl _ w).alloc (Nat.le_refl _) _
  clear h hx hf hu h46 hxe
  go_enter Tryz.func153, Tryz.ntmps153
  go_wp2
  generalize w.alloc (.cells #[.bool false, .bool false, .bool false, .bool false, .bool false, .int .i64 0, .int .i64 (-1)] 283) = W at hmk hmB ⊢
  have HW : Hid (W.heap[w.heap.size]? = some (.cells (cvA {} (-1)) 283) ∧ flagsS {} l = (y, l1) ∧ Below w.heap.size w W ∧ l.length ≤ 2097152) := Lib.hid ⟨hmk, HH.out.1, hmB, hz⟩
  clear hmk hmB hz
  go_loopw [0] (fun sv wr => ∃ (l' : List UInt8) (z : Pc), sv = .string (bz l') ∧ Hid (wr.heap[w.heap.size]? = some (.cells (cvA z (-1)) 283) ∧ flagsS z l' = (y, l1) ∧ Below w.heap.size w wr ∧ l'.length ≤ 2097152)) (fun sv _ => strSize sv)
  case atStart => exact ⟨l, {}, rfl, HW⟩
  case round =>
    obtain ⟨l', z, rfl, H⟩ := hrel
    cases l' with
    | nil =>
      exfalso
      have h1 := H.out.2.1
      have h2 := HH.out.2.1
      simp only [flagsS, Prod.mk.injEq] at h1
      rw [← h1.2] at h2
      cases h2
    | cons a t =>
      have hem := cons_isEmpty a t
      have hix := idx0 a t
      have hsz : (bz (a :: t)).size = t.length + 1 := bz_size _
      have hdr := drop_one a t
      rw [hsz] at hdr
      have hlen : t.length ≤ 2097151 := by have := H.out.2.2.2; simp at this; omega
      cases hfg : flagS z a with
      | some z2 =>
        have htf := takeFlag_yes H.out.1 hfg
        have HF : Hid (flagsS z2 t = (y, l1)) := Lib.hid (by have h1 := H.out.2.1; rw [flagsS, hfg] at h1; exact h1)
        clear hfg
        go_wp2_with (go_at_call 185; refine htf.mono ?_; rintro e w2 ⟨rfl, hb2, hT2⟩; have HN : Hid (w2.heap[w.heap.size]? = some (.cells (cvA z2 (-1)) 283) ∧ flagsS z2 t = (y, l1) ∧ Below w.heap.size w w2 ∧ t.length ≤ 2097152) := Lib.hid ⟨hb2, HF.out, H.out.2.2.1.trans (turn_below hT2 (by simp) H.out.2.2.1.size), by omega⟩; clear hb2 hT2 htf)
        exact ⟨⟨t, z2, rfl, HN⟩, by show (bz t).size < (bz (a :: t)).size; rw [bz_size, hsz]; omega⟩
      | none =>
        have htf := takeFlag_no (w := wr) (b := w.heap.size) hfg
        have hfl : z = y ∧ a :: t = l1 := by
          have h1 := H.out.2.1
          rw [flagsS, hfg] at h1
          simpa using h1
        have HC : Hid (cvA z (-1) = cvA y (-1)) := Lib.hid (by rw [hfl.1])
        obtain ⟨rfl, hl1⟩ := hfl
        subst hl1
        have hcr := cutRoom_c HH.out.2.1 H.out.2.2.2 wr
        have hz5 := h_fz H.out.1 5
        have hlr : r.length ≤ 2097151 := by have := upTo_le HH.out.2.1; simp at this; omega
        have hcp := fun u => cutp_no (s := c :: r) (k := 46) (by rw [has_one, beq_eq_false_iff_ne]; exact Ne.symm HH.out.2.2.1) u
        clear hfg
        go_upto_region 5 with (first
          | (go_at_call 185; refine htf.mono ?_; rintro e w2 ⟨rfl, hw2⟩; rw [hw2]; clear hw2 htf)
          | (go_at_call 186; refine hcr.mono ?_; rintro e w3 ⟨rfl, hB3⟩; have hb3 := (hB3.block w.heap.size (h_lt H.out.1)).trans H.out.1; have d5 : w3.cell? ⟨w.heap.size, 5, none⟩ = some (.int .i64 (z.width : Int)) := h_cell hb3 5 rfl; have z5 := h_fz hb3 5; have hlt3 := h_lt hb3; have H3 := Lib.hid (And.intro hb3 (H.out.2.2.1.trans (hB3.mono H.out.2.2.1.size))); clear hb3 hB3 hcr))
        have hb4 : (w3.setCell ⟨w.heap.size, 5, none⟩ (.int .i64 (n : Int))).heap[w.heap.size]? = some (.cells (cvA x (-1)) 283) := by
          have h9 := h_set H3.out.1 5 (.int .i64 (n : Int))
          rw [HH.out.2.2.2.1]
          exact h9
        have hB4 : Below w.heap.size w (w3.setCell ⟨w.heap.size, 5, none⟩ (.int .i64 (n : Int))) := H3.out.2.setCell (p := ⟨w.heap.size, 5, none⟩) (Nat.le_refl _) _
        generalize w3.setCell ⟨w.heap.size, 5, none⟩ (.int .i64 (n : Int)) = V at hb4 hB4 ⊢
        obtain ⟨e0, e1, e2, e3, e4, e5, e6⟩ := box_cells hb4
        have hxw : x.width ≤ 1000 := HH.out.2.2.2.2.width
        have hmx : max (x.width : Int) (-1) = (x.width : Int) := by omega
        have hxl : x.letter = c := by rw [HH.out.2.2.2.1]
        have hbl := byLetter_c HH.out.2.2.2.2 V.drew
        rw [hxl] at hbl
        have hem2 := cons_isEmpty c r
        have hsl2 := sl_one c r (by omega)
        have hix2 := idx0 c r
        have hsz2 : (bz (c :: r)).size = r.length + 1 := bz_size _
        have hdr2 := drop_one c r
        rw [hsz2] at hdr2
        have HV := Lib.hid (And.intro hb4 hB4)
        have hltV := h_lt hb4
        clear hb4 hB4 hem hix hsz hdr hlen hz5 z5 d5 hlt3 H3 H HW hxl
        go_upto_region 10 with (go_at_call 158; refine (hcp _).mono ?_; rintro e w4 ⟨rfl, hw4⟩; rw [hw4]; clear hw4)
        have HC2 : Hid (∀ w' : World, w'.heap[w.heap.size]? = some (.cells (cvA x (-1)) 283) → w'.cell? ⟨w.heap.size, 0, none⟩ = some (.bool x.minus) ∧ w'.cell? ⟨w.heap.size, 1, none⟩ = some (.bool x.plus) ∧ w'.cell? ⟨w.heap.size, 2, none⟩ = some (.bool x.blank) ∧ w'.cell? ⟨w.heap.size, 3, none⟩ = some (.bool x.zero) ∧ w'.cell? ⟨w.heap.size, 4, none⟩ = some (.bool x.sharp) ∧ w'.cell? ⟨w.heap.size, 5, none⟩ = some (.int .i64 (x.width : Int)) ∧ w'.cell? ⟨w.heap.size, 6, none⟩ = some (.int .i64 (-1))) := Lib.hid fun w' h => box_cells h
        have k0 := HC2.out V.drew HV.out.1
        unfold cvV cvA at hbl
        clear hcp e0 e1 e2 e3 e4 e5 e6 hmx
        go_region_held3 (fun w' => w'.cell? ⟨w.heap.size, 0, none⟩ = some (.bool x.minus) ∧ w'.cell? ⟨w.heap.size, 1, none⟩ = some (.bool x.plus) ∧ w'.cell? ⟨w.heap.size, 2, none⟩ = some (.bool x.blank) ∧ w'.cell? ⟨w.heap.size, 3, none⟩ = some (.bool x.zero) ∧ w'.cell? ⟨w.heap.size, 4, none⟩ = some (.bool x.sharp) ∧ w'.cell? ⟨w.heap.size, 5, none⟩ = some (.int .i64 (x.width : Int)) ∧ w'.cell? ⟨w.heap.size, 6, none⟩ = some (.int .i64 (-1))) (first | exact k0 | exact k5) (first
          | (go_at_call 187; refine hbl.mono ?_; rintro e w5 ⟨v, rfl, ⟨f5, y5, z5, rfl⟩, hP5, hB5, hs5⟩; have k5 := HC2.out w5 ((hB5.block w.heap.size hltV).trans HV.out.1); have H5 := Lib.hid (And.intro hP5 (And.intro hB5 hs5)); clear hP5 hB5 hs5 hbl))
        all_goals
          go_wp2_with fail
          go_ret2
          have hVs := HV.out.2.size
          refine ⟨_, [V.heap.size, V.heap.size + 1, V.heap.size + 2], rfl, ⟨_, _, _, rfl⟩, H5.out.1, fun b hb => ?_, HV.out.2.trans ((show Below V.heap.size V w5 from (show Below V.heap.size V V.drew from ⟨rfl, rfl, rfl, Nat.le_refl _, fun _ _ => rfl⟩).trans H5.out.2.1).mono hVs)⟩
          have hs5 : w5.heap.size = V.heap.size + 3 := H5.out.2.2.1
          refine ⟨?_, ?_, H5.out.2.2.2 b hb⟩
          · simp only [List.mem_cons, List.not_mem_nil, or_false] at hb
            omega
          · simp only [List.mem_cons, List.not_mem_nil, or_false] at hb
            omega
end Go.Proofs.YteimilnecahifaaGreatDoor.Nm

namespace Go.Proofs.YteimilnecahifaaGreatDoor.Nm
open Go.Proofs.YteimilnecahifaaGreatDoor Go.Proofs.YteimilnecahifaaGreatDoor.Op
open Go.RowKit Go.Proofs.YteimilnecahifaaGreatDoor.Re

/-- Formats of the laws: a backslash stands ahead of n alone, a percent sign ahead of no other one. -/
def okF : List UInt8 → Bool
  | [] => true
  | c :: r => (if c = 92 then r.head? == some 110 else true) && (if c = 37 then r.head? != some 37 else true) && okF r
theorem okF_tail {c : UInt8} {r : List UInt8} (h : okF (c :: r) = true) : okF r = true := by
  rw [okF, Bool.and_eq_true] at h; exact h.2
theorem okF_n {r : List UInt8} (h : okF (92 :: r) = true) : ∃ t, r = 110 :: t ∧ okF t = true := by
  have h2 := okF_tail h
  rw [okF, Bool.and_eq_true, Bool.and_eq_true] at h
  cases r with
  | nil => simp at h
  | cons d t =>
    have e : d = 110 := by simpa using h.1.1
    subst e
    exact ⟨t, rfl, okF_tail h2⟩
theorem okF_p {r : List UInt8} (h : okF (37 :: r) = true) : r.head? ≠ some 37 := by
  rw [okF, Bool.and_eq_true, Bool.and_eq_true] at h
  simpa using h.1.2
theorem pieces_esc {m : Nat} {t : List UInt8} {lr : List Pc} (h : piecesN m (92 :: 110 :: t) = some lr) : ∃ m' l', piecesN m' t = some l' ∧ lr = { b := [10] } :: l' := by
  cases m with
  | zero => cases h
  | succ m =>
    rw [piecesN, if_pos rfl, esc_n] at h
    obtain ⟨l', h1, h2⟩ := Option.map_eq_some_iff.1 h
    exact ⟨m, l', h1, h2.symm⟩
theorem letterS_ne {z x : Pc} {l r : List UInt8} (h : letterS z l = some (x, r)) : x.letter ≠ 0 := by
  cases l with
  | nil => cases h
  | cons c t =>
    rw [letterS] at h
    split at h
    · rename_i hc
      simp only [Option.some.injEq, Prod.mk.injEq] at h
      rw [← h.1]
      show c ≠ 0
      rintro rfl
      exact absurd hc (by decide)
    · cases h
theorem conv_letter {l r : List UInt8} {x : Pc} (h : convP l = some (x, r)) : x.letter ≠ 0 := by
  unfold convP at h
  cases hu : upToS (flagsS {} l).2 with
  | none => rw [hu] at h; cases h
  | some p =>
    rw [hu] at h
    simp only [Option.bind_some] at h
    unfold precS at h
    split at h
    · rename_i t _
      cases hq : upToS t with
      | none => rw [hq] at h; cases h
      | some q =>
        rw [hq] at h
        exact letterS_ne h
    · exact letterS_ne h
theorem pieces_conv {m : Nat} {t : List UInt8} {lr : List Pc} (h : piecesN m (37 :: t) = some lr) (hp : t.head? ≠ some 37) : ∃ m' l' x r, convP t = some (x, r) ∧ piecesN m' r = some l' ∧ lr = x :: l' ∧ x.letter ≠ 0 := by
  cases m with
  | zero => cases h
  | succ m =>
    rw [piecesN, if_neg (by decide), if_pos rfl, if_neg hp] at h
    cases hc : convP t with
    | none => rw [hc] at h; cases h
    | some q =>
      obtain ⟨x, r⟩ := q
      rw [hc] at h
      simp only [Option.bind_some] at h
      obtain ⟨l', h1, h2⟩ := Option.map_eq_some_iff.1 h
      exact ⟨m, l', x, r, rfl, h1, h2.symm, conv_letter hc⟩
theorem pieces_byte {m : Nat} {c : UInt8} {t : List UInt8} {lr : List Pc} (h : piecesN m (c :: t) = some lr) (h1 : c ≠ 92) (h2 : c ≠ 37) : ∃ m' l', piecesN m' t = some l' ∧ lr = { b := [c] } :: l' := by
  cases m with
  | zero => cases h
  | succ m =>
    rw [piecesN, if_neg h1, if_neg h2] at h
    obtain ⟨l', h3, h4⟩ := Option.map_eq_some_iff.1 h
    exact ⟨m, l', h3, h4.symm⟩
theorem pieces_end {m : Nat} {lr : List Pc} (h : piecesN m [] = some lr) : lr = [] := by
  rw [piecesN_nil] at h
  exact (Option.some.inj h).symm
theorem merge_byte (pl bs : List UInt8) (l : List Pc) : mergeP pl ({ b := bs } :: l) = mergeP (pl ++ bs) l := by
  rw [mergeP, if_pos rfl]
theorem merge_conv {x : Pc} (h : x.letter ≠ 0) (pl : List UInt8) (l : List Pc) : mergeP pl (x :: l) = { b := pl } :: x :: mergeP [] l := by
  rw [mergeP, if_neg h]
theorem bs_byte (w : World) (c : Int) : (Instr.buildSlice 27 1 #[(0, .int .u8 c)]).run Tryz.prog w = .ok (.slice (some ⟨w.heap.size, 0, none⟩) 1 1) (w.alloc (.cells #[.int .u8 c] 5)) := by kernel_rfl
theorem row_byte (w : World) (c : UInt8) : Row (w.alloc (.cells #[.int .u8 (c.toNat : Int)] 5)) 0 (.slice (some ⟨w.heap.size, 0, none⟩) 1 1) [c] :=
  ⟨rfl, .inr ⟨w.heap.size, 1, _, rfl, Nat.zero_le _, al_new _ _, Nat.le_refl _, by unfold maxLen; omega, rfl, rfl⟩⟩
theorem as_c (bv : Value) (w : World) (hb : ∃ a n c, bv = .slice a n c) : Calls Tryz.prog 154 #[bv] w fun e w' => e = .returned (.func (.func 188) #[] #[ptr w.heap.size]) ∧ w' = w.alloc (.cells #[bv] 27) := by
  obtain ⟨a, n, c, rfl⟩ := hb
  go_enter Tryz.func154, Tryz.ntmps154
  go_wp2
  go_ret
  exact ⟨rfl, rfl⟩
/-- A byte behind bytes of one's own leaves such. -/
def PlainOut (B : Nat) (w : World) (v v' : Value) (l : List UInt8) (w' : World) : Prop := Row w' B v' l ∧ SameNew w v v' ∧ Turn v.ownBlock.toList w w'
end Go.Proofs.YteimilnecahifaaGreatDoor.Nm

namespace Go.Proofs.YteimilnecahifaaGreatDoor.Nm
open Go.Proofs.YteimilnecahifaaGreatDoor Go.Proofs.YteimilnecahifaaGreatDoor.Op
open Go.RowKit Go.Proofs.YteimilnecahifaaGreatDoor.Re

theorem index_n (w : World) : Calls Tryz.prog 91 #[.string ⟨#[92, 97, 98, 102, 110, 114, 116, 118]⟩, .int .u8 110] w fun e w' => e = .returned (.int .i64 4) ∧ w' = w := by
  refine (Tryz.strings_IndexByte ⟨#[92, 97, 98, 102, 110, 114, 116, 118]⟩ 110 w).mono ?_
  rintro e w' ⟨rfl, hw⟩
  exact ⟨by first | rfl | decide, hw⟩
set_option maxRecDepth 100000 in
set_option maxHeartbeats 2000000 in
theorem escape_n {w : World} {B : Nat} {pv : Value} {pl t : List UInt8} (hr : Row w B pv pl) (hB : B ≤ w.heap.size) (hz : pl.length ≤ 2097152) (ht : t.length ≤ 2097152) : Calls Tryz.prog 151 #[pv, .string (bz (110 :: t))] w fun e w' => ∃ pv', e = .returned (.tuple #[pv', .string (bz t)]) ∧ PlainOut B w pv pv' (pl ++ [10]) w' := by
  obtain ⟨x, n, c, rfl⟩ := row_sl hr
  have hr0 : Row (w.drew.alloc (.cells #[.int .u8 ((10 : UInt8).toNat : Int)] 5)) B (.slice x n c) pl := by
    rcases hr.2 with hn | ⟨g, cap, cur, e, hb, hg, q⟩
    · exact ⟨hr.1, .inl hn⟩
    · exact ⟨hr.1, .inr ⟨g, cap, cur, e, hb, al_old2 _ hg, q⟩⟩
  have hbn := row_byte w.drew 10
  have hbs := bs_byte w.drew 10
  have hem := cons_isEmpty 110 t
  have hix := idx0 110 t
  have hsl := sl_one 110 t ht
  have hin := index_n w
  have H := Lib.hid (And.intro hr hB)
  have hsz : B ≤ (w.drew.alloc (.cells #[.int .u8 ((10 : UInt8).toNat : Int)] 5)).heap.size := by simp; omega
  clear hr hB
  go_enter Tryz.func151, Tryz.ntmps151
  go_upto_region 6 with (go_at_call 91; refine hin.mono ?_; rintro e w' ⟨rfl, hw'⟩; rw [hw']; clear hw')
  refine wp_region_tail 8 (fun _ => True) (by kernel_rfl) trivial (fun hHeld => ?_)
  repeat
    first
      | (refine wpAnyT_take (i := 0) (v := ?_) 9 rfl (by decide +kernel) (fun _ _ _ h => h) (Or.inl ⟨by rfl, fun u hu => ?_⟩) (by assumption) ?_; rotate_left; focus ((try dsimp only at hu); go_simp; try with_reducible rfl))
      | (refine wpAnyT_take (i := 1) (v := ?_) 9 rfl (by decide +kernel) (fun _ _ _ h => h) (Or.inl ⟨by rfl, fun u hu => ?_⟩) (by assumption) ?_; rotate_left; focus ((try dsimp only at hu); go_simp; try with_reducible rfl))
      | (refine wpAnyT_take (i := 2) (v := ?_) 9 rfl (by decide +kernel) (fun _ _ _ h => h) (Or.inl ⟨by rfl, fun u hu => ?_⟩) (by assumption) ?_; rotate_left; focus ((try dsimp only at hu); go_simp; try with_reducible rfl))
      | (refine wpAnyT_take (i := 5) (v := ?_) 9 rfl (by decide +kernel) (fun _ _ _ h => h) (Or.inl ⟨by rfl, fun u hu => ?_⟩) (by assumption) ?_; rotate_left; focus ((try dsimp only at hu); go_simp; try with_reducible rfl))
      | (refine wpAnyT_take (i := 6) (v := ?_) 9 rfl (by decide +kernel) (fun _ _ _ h => h) (Or.inl ⟨by rfl, fun u hu => ?_⟩) (by assumption) ?_; rotate_left; focus ((try dsimp only at hu); go_simp; try with_reducible rfl))
    simp only [Act.put, List.setIfInBounds_toArray, List.set_cons_zero, List.set_cons_succ]
  refine wpAnyT_one (i := 3) rfl (by kernel_rfl) (fun K hK => ?_)
  refine step_build1 rfl _ _ rfl (by first | rfl | (simp [Act.eval]; rfl)) hbs ?_
  refine hK.out _ _ (fun _ => trivial) ?_
  clear hK K
  simp only [Act.put, List.setIfInBounds_toArray, List.set_cons_zero, List.set_cons_succ]
  refine wpAnyT_one (i := 4) rfl (by kernel_rfl) (fun K hK => ?_)
  refine step_row rfl _ _ rfl B (.slice x n c) pl (by simp [Act.eval]) hr0 (.slice (some ⟨w.heap.size, 0, none⟩) 1 1) [10] (by simp [Act.eval]) hbn (by simp; omega) hsz ?_
  intro v' w2 hr2 hgr hsn
  have HZ := Lib.hid (And.intro hr2 (And.intro hgr hsn))
  obtain ⟨y, m, c3, rfl⟩ := row_sl hr2
  clear hr2 hgr hsn
  refine hK.out _ _ (fun _ => trivial) ?_
  clear hK K
  simp only [Act.put, List.setIfInBounds_toArray, List.set_cons_zero, List.set_cons_succ]
  refine wpAnyT_one (i := 7) rfl (by kernel_rfl) (fun K hK => ?_)
  go_simp
  refine hK.out _ _ (fun _ => trivial) ?_
  clear hK K
  refine wpAnyT_one (i := 8) rfl (by kernel_rfl) (fun K hK => ?_)
  go_simp
  refine hK.out _ _ (fun _ => trivial) ?_
  clear hK K
  refine wpAnyT_done (by kernel_rfl) ?_ _
  go_wp2_with fail
  go_ret2
  have hB1 : Below w.heap.size w (w.drew.alloc (.cells #[.int .u8 ((10 : UInt8).toNat : Int)] 5)) := (Below.refl _ w).drew.alloc (by simp) _
  refine ⟨_, rfl, HZ.out.1, fun b e => ?_, ?_⟩
  · rcases HZ.out.2.2 b e with h | h
    · exact .inl h
    · exact .inr (Nat.le_trans hB1.size h)
  · have hg := HZ.out.2.1
    exact (Turn.below hB1).trans ⟨hg.os, hg.tape, hg.output, hg.size, fun k hk hn => hg.block k hk (fun e => hn (by rw [← e]; simp))⟩
end Go.Proofs.YteimilnecahifaaGreatDoor.Nm
