/- The law RegexQuotes. -/
import Derived.Test.YtlekfdkahlobiaaGreatDoorGLaw3
namespace Go.Proofs.YtlekfdkahlobiaaGreatDoor.Re
open Go.Proofs.YtlekfdkahlobiaaGreatDoor.Tr
open Go.RowKit

theorem by_atQ (s : ByteArray) (k : Nat) (h : k < s.size) : s.data.toList[k]? = some s[k] := by
  rw [List.getElem?_eq_getElem (by simpa using h)]; rfl
theorem take_flat (f : UInt8 → List UInt8) (s : ByteArray) (k : Nat) (h : k < s.size) : (s.data.toList.take (k + 1)).flatMap f = (s.data.toList.take k).flatMap f ++ f s[k] := by
  rw [List.take_add_one, by_atQ s k h]
  simp
theorem conv1Q (w : World) (c : UInt8) : (convert 35 9 (.slice (some ⟨w.heap.size, 0, none⟩) 1 1)).run Tryz.prog (w.alloc (.cells #[.int .u8 (c.toNat : Int)] 5)) = .ok (.string ⟨#[c]⟩) (w.alloc (.cells #[.int .u8 (c.toNat : Int)] 5)) :=
  run_convert_bytes_back (P := Tryz.prog) _ 35 9 5 ⟨w.heap.size, 0, none⟩ 1 [c] Tryz.underlying35 Tryz.underlying5 Tryz.underlying9 (fun j hj => by
    obtain rfl : j = 0 := by simpa using hj
    rw [Addr.add_lit]; simp only [World.cell?, al_new]; rfl)
theorem cat_bs (a : List UInt8) (b : ByteArray) : Value.string ((⟨a.toArray⟩ : ByteArray) ++ b) = .string ⟨(a ++ b.data.toList).toArray⟩ := by
  congr 1
theorem cat2_bs (a : List UInt8) (b c : ByteArray) : Value.string ((⟨a.toArray⟩ : ByteArray) ++ b ++ c) = .string ⟨(a ++ b.data.toList ++ c.data.toList).toArray⟩ := by
  congr 1
theorem by_toList (s : ByteArray) : s.toList = s.data.toList := by
  exact ByteArray.toList_eq s
theorem dec_inQ {a : UInt8} (h1 : 48 ≤ a.toNat) (h2 : a.toNat ≤ 57) : alnumB a = true := by
  unfold alnumB isDec; rw [decide_eq_true ⟨h1, h2⟩, Bool.or_true]
theorem low_in {a : UInt8} (h1 : 97 ≤ a.toNat) (h2 : a.toNat ≤ 122) : alnumB a = true := by
  unfold alnumB letterB lowerB within; rw [decide_eq_true ⟨h1, h2⟩]; rfl
theorem up_in {a : UInt8} (h1 : 65 ≤ a.toNat) (h2 : a.toNat ≤ 90) : alnumB a = true := by
  unfold alnumB letterB upperB within; rw [decide_eq_true (show 65 ≤ a.toNat ∧ a.toNat ≤ 90 from ⟨h1, h2⟩), Bool.or_true]; rfl
theorem not_al {a : UInt8} (h1 : ¬ (48 ≤ a.toNat ∧ a.toNat ≤ 57)) (h2 : ¬ (97 ≤ a.toNat ∧ a.toNat ≤ 122)) (h3 : ¬ (65 ≤ a.toNat ∧ a.toNat ≤ 90)) : alnumB a = false := by
  unfold alnumB letterB lowerB upperB within isDec
  rw [decide_eq_false h1, decide_eq_false h2, decide_eq_false h3]; rfl
theorem quo_al {a : UInt8} (h : alnumB a = true) : quoX a = [a] ∧ quoY a = [a] := by
  unfold quoX quoY bareB; rw [h]; exact ⟨rfl, rfl⟩
theorem quo_par {a : UInt8} (h : alnumB a = false) (h2 : a = 40 ∨ a = 41 ∨ a = 123 ∨ a = 125) : quoX a = [92, a] ∧ quoY a = [a] := by
  unfold quoX quoY; rw [h]
  refine ⟨rfl, if_pos ?_⟩
  rcases h2 with rfl | rfl | rfl | rfl <;> decide
theorem quo_no {a : UInt8} (h : alnumB a = false) (h2 : ¬ (a = 40 ∨ a = 41 ∨ a = 123 ∨ a = 125)) : quoX a = [92, a] ∧ quoY a = [92, a] := by
  unfold quoX quoY bareB; rw [h]
  refine ⟨rfl, if_neg ?_⟩
  simp only [Bool.false_or, Bool.or_eq_true, beq_iff_eq]
  rintro (((h | h) | h) | h)
  · exact h2 (.inl h)
  · exact h2 (.inr (.inl h))
  · exact h2 (.inr (.inr (.inl h)))
  · exact h2 (.inr (.inr (.inr h)))
theorem u8_toNat {a : UInt8} {n : Nat} (h : (a.toNat : Int) = (n : Int)) : a = UInt8.ofNat n := by
  have h2 : a.toNat = n := by omega
  rw [← h2]; simp
/-- How a byte stands, by the law's own tests. -/
theorem sorts (a : UInt8) :
    (quoX a = [a] ∧ quoY a = [a] ∧ ((48 ≤ (a.toNat : Int) ∧ (a.toNat : Int) ≤ 57) ∨ (97 ≤ (a.toNat : Int) ∧ (a.toNat : Int) ≤ 122) ∨ (65 ≤ (a.toNat : Int) ∧ (a.toNat : Int) ≤ 90))) ∨
    (quoX a = [92, a] ∧ ((a.toNat : Int) < 48 ∨ (57 < (a.toNat : Int) ∧ (a.toNat : Int) < 65) ∨ (90 < (a.toNat : Int) ∧ (a.toNat : Int) < 97) ∨ 122 < (a.toNat : Int)) ∧
      ((quoY a = [a] ∧ ((a.toNat : Int) = 40 ∨ (a.toNat : Int) = 41 ∨ (a.toNat : Int) = 123 ∨ (a.toNat : Int) = 125)) ∨ (quoY a = [92, a] ∧ (a.toNat : Int) ≠ 40 ∧ (a.toNat : Int) ≠ 41 ∧ (a.toNat : Int) ≠ 123 ∧ (a.toNat : Int) ≠ 125))) := by
  by_cases h1 : 48 ≤ a.toNat ∧ a.toNat ≤ 57
  · have := quo_al (dec_inQ h1.1 h1.2); exact .inl ⟨this.1, this.2, .inl (by omega)⟩
  by_cases h2 : 97 ≤ a.toNat ∧ a.toNat ≤ 122
  · have := quo_al (low_in h2.1 h2.2); exact .inl ⟨this.1, this.2, .inr (.inl (by omega))⟩
  by_cases h3 : 65 ≤ a.toNat ∧ a.toNat ≤ 90
  · have := quo_al (up_in h3.1 h3.2); exact .inl ⟨this.1, this.2, .inr (.inr (by omega))⟩
  have hn := not_al h1 h2 h3
  refine .inr ?_
  by_cases h4 : a = 40 ∨ a = 41 ∨ a = 123 ∨ a = 125
  · have := quo_par hn h4
    refine ⟨this.1, by omega, .inl ⟨this.2, ?_⟩⟩
    rcases h4 with rfl | rfl | rfl | rfl <;> decide
  · have := quo_no hn h4
    refine ⟨this.1, by omega, .inr ⟨this.2, ?_, ?_, ?_, ?_⟩⟩
    · intro h; exact h4 (.inl (u8_toNat h))
    · intro h; exact h4 (.inr (.inl (u8_toNat h)))
    · intro h; exact h4 (.inr (.inr (.inl (u8_toNat h))))
    · intro h; exact h4 (.inr (.inr (.inr (u8_toNat h))))
/-- What is asked of Literal. -/
def LiteralC (Amb : World → Prop) (ReAt : World → Value → Nd → Prop) : Prop := ∀ (s : ByteArray) (fold : Bool) (w : World), Amb w → s.size ≤ 1048576 → Calls Tryz.prog 12 #[.string s, .bool fold] w fun e w' => ∃ v, e = .returned v ∧ isPtr w' v ∧ ReAt w' v (literalS fold s.data.toList) ∧ Below w.heap.size w w'
section
variable {Amb : World → Prop} {ReAt : World → Value → Nd → Prop}
set_option maxHeartbeats 4000000 in
set_option maxRecDepth 100000 in
theorem quotes_law (S : Says Amb ReAt) (hLit : LiteralC Amb ReAt) (s : ByteArray) (fold : Bool) (w : World) (hA : Amb w) (hs : s.size ≤ 1048576) :
    Calls Tryz.prog 4 #[.string s, .bool fold] w fun e w' => e = .returned (.bool true) ∧ Below w.heap.size w w' := by
  have haw := awake_c S w hA
  by_cases hl : 2000 < s.size
  · have hg : decide ((s.size : Int) > 2000) = true := decide_eq_true (by omega)
    clear S
    go_enter Tryz.func4, Tryz.ntmps4
    go_wp2_with (go_at_call 6; refine haw.mono ?_; rintro e w1 ⟨rfl, hB⟩)
    go_ret
    exact ⟨rfl, hB⟩
  have HS := Lib.hid S
  have HLit := Lib.hid hLit
  clear S hLit
  go_enter Tryz.func4, Tryz.ntmps4
  go_wp2_with (go_at_call 6; refine haw.mono ?_; rintro e w1 ⟨rfl, hB1⟩)
  clear haw
  go_loopw [6, 7, 8] (fun vx vy vi wr => ∃ (k : Nat) (X Y : List UInt8), k ≤ s.size ∧ vi = .int .i64 k ∧ vx = .string ⟨X.toArray⟩ ∧ vy = .string ⟨Y.toArray⟩ ∧ X.length ≤ 2 * k ∧ Y.length ≤ 2 * k ∧ Hid (X = (s.data.toList.take k).flatMap quoX ∧ Y = (s.data.toList.take k).flatMap quoY ∧ Below w.heap.size w wr)) (fun _ _ vi _ => s.size - (intOf vi).toNat)
  case atStart => exact ⟨0, [], [], by omega, rfl, rfl, rfl, by simp, by simp, (show _ ∧ _ ∧ _ from ⟨by simp, by simp, hB1⟩)⟩
  case round =>
    obtain ⟨k, X, Y, hk, rfl, rfl, rfl, hX, hY, HI⟩ := hrel
    by_cases hlt : k < s.size
    · have HT := Lib.hid (And.intro (take_flat quoX s k hlt) (take_flat quoY s k hlt))
      have hcv := conv1Q wr s[k]
      have HB : Hid (Below w.heap.size w (wr.alloc (.cells #[.int .u8 (s[k].toNat : Int)] 5))) := HI.out.2.2.alloc HI.out.2.2.size _
      have hc256 := s[k].toNat_lt
      rcases sorts s[k] with ⟨hx, hy, hw⟩ | ⟨hx, hw, ⟨hy, hp⟩ | ⟨hy, p1, p2, p3, p4⟩⟩
      · have HQ : Hid (quoX s[k] = [s[k]] ∧ quoY s[k] = [s[k]]) := ⟨hx, hy⟩
        clear hx hy
        rcases hw with ⟨g1, g2⟩ | ⟨g1, g2⟩ | ⟨g1, g2⟩
        all_goals
          go_wp2_with fail
          refine ⟨⟨k + 1, X ++ [s[k]], Y ++ [s[k]], by omega, by go_num, cat_bs _ _, cat_bs _ _, by simp; omega, by simp; omega, ?_⟩, by simp [intOf]; omega⟩
          exact (show _ ∧ _ ∧ _ from ⟨by rw [HT.out.1, HQ.out.1, HI.out.1], by rw [HT.out.2, HQ.out.2, HI.out.2.1], HB.out⟩)
      · have HQ : Hid (quoX s[k] = [92, s[k]] ∧ quoY s[k] = [s[k]]) := ⟨hx, hy⟩
        clear hx hy
        rcases hp with hp | hp | hp | hp
        all_goals
          rw [hp] at hcv HB
          go_wp2_with fail
          refine ⟨⟨k + 1, X ++ [92] ++ [s[k]], Y ++ [s[k]], by omega, by go_num, ?_, cat_bs _ _, by simp; omega, by simp; omega, ?_⟩, by simp [intOf]; omega⟩
          · exact cat2_bs _ _ _
          · exact (show _ ∧ _ ∧ _ from ⟨by rw [HT.out.1, HQ.out.1, HI.out.1]; simp, by rw [HT.out.2, HQ.out.2, HI.out.2.1], HB.out⟩)
      · have HQ : Hid (quoX s[k] = [92, s[k]] ∧ quoY s[k] = [92, s[k]]) := ⟨hx, hy⟩
        clear hx hy
        have q1 : ((s[k].toNat : Int) != 40) = true := by rw [bne_iff_ne]; exact p1
        have q2 : ((s[k].toNat : Int) != 41) = true := by rw [bne_iff_ne]; exact p2
        have q3 : ((s[k].toNat : Int) != 123) = true := by rw [bne_iff_ne]; exact p3
        have q4 : ((s[k].toNat : Int) != 125) = true := by rw [bne_iff_ne]; exact p4
        rcases hw with hw | ⟨hw, hv⟩ | ⟨hw, hv⟩ | hw
        all_goals
          try have d1 : decide ((s[k].toNat : Int) ≤ 57) = false := decide_eq_false (by omega)
          try have d2 : decide ((s[k].toNat : Int) ≤ 90) = false := decide_eq_false (by omega)
          try have d3 : decide ((s[k].toNat : Int) ≤ 122) = false := decide_eq_false (by omega)
          go_wp2_with fail
          refine ⟨⟨k + 1, X ++ [92] ++ [s[k]], Y ++ [92] ++ [s[k]], by omega, by go_num, cat2_bs _ _ _, cat2_bs _ _ _, by simp; omega, by simp; omega, ?_⟩, by simp [intOf]; omega⟩
          exact (show _ ∧ _ ∧ _ from ⟨by rw [HT.out.1, HQ.out.1, HI.out.1]; simp, by rw [HT.out.2, HQ.out.2, HI.out.2.1]; simp, HB.out⟩)
    · obtain rfl : k = s.size := by omega
      have HE : Hid (X = s.data.toList.flatMap quoX ∧ Y = s.data.toList.flatMap quoY ∧ Below w.heap.size w wr) := by
        have e : s.data.toList.take s.size = s.data.toList := List.take_of_length_le (Nat.le_refl _)
        have := HI.out
        rw [e] at this
        exact this
      have hA1 : Hid (Amb wr) := HS.out.keep _ _ hA HE.out.2.2
      clear HI
      by_cases hz : s.size = 0
      · have he : s.toList.isEmpty = true := by
          rw [by_toList, List.isEmpty_iff]
          exact List.length_eq_zero_iff.1 hz
        go_wp2_with fail
        go_ret
        exact ⟨rfl, HE.out.2.2⟩
      · have he : s.toList.isEmpty = false := by
          rw [Bool.eq_false_iff]
          intro h
          rw [List.isEmpty_iff] at h
          have h2 := congrArg List.length h
          rw [by_toList] at h2
          exact hz h2
        have hn : s.data.toList ≠ [] := fun h => hz (congrArg List.length h)
        have hlen : s.data.toList.length ≤ 9999 := (show s.size ≤ 9999 by omega)
        have l1 := HLit.out s fold wr hA1.out hs
        have px : Hid (parseS true fold X = .ok (literalS fold s.data.toList)) := by rw [Hid, HE.out.1]; exact parse_X hn hlen
        have py : Hid (parseS false fold Y = .ok (literalS fold s.data.toList)) := by rw [Hid, HE.out.2.1]; exact parse_Y hlen
        have hok : Hid (OkN (literalS fold s.data.toList)) := by
          obtain ⟨a, b, _⟩ := parse_wf px.out
          exact ⟨a, by omega⟩
        have HB0 : Hid (Below w.heap.size w wr) := HE.out.2.2
        clear HE hn hlen
        generalize literalS fold s.data.toList = L at l1 px py hok
        go_wp2_with fail
        refine l1.mono ?_
        rintro e w2 ⟨v, rfl, hi, hr, hB2⟩
        have hA2 : Hid (Amb w2) := HS.out.keep _ _ hA1.out hB2
        have t1 := told_c HS.out ⟨X.toArray⟩ true fold w2 hA2.out (show X.length ≤ _ by omega)
        rw [show parseS true fold (⟨X.toArray⟩ : ByteArray).data.toList = _ from px.out] at t1
        have HR2 : Hid (isPtr w2 v ∧ ReAt w2 v L ∧ Below w.heap.size w w2) := ⟨hi, hr, HB0.out.trans (hB2.mono HB0.out.size)⟩
        obtain ⟨b, rfl, _⟩ := hi
        clear hr hB2 l1
        go_wp2_with fail
        refine t1.mono ?_
        rintro e w3 ⟨rfl, hB3⟩
        have hA3 : Hid (Amb w3) := HS.out.keep _ _ hA2.out hB3
        have t2 := told_c HS.out ⟨Y.toArray⟩ false fold w3 hA3.out (show Y.length ≤ _ by omega)
        rw [show parseS false fold (⟨Y.toArray⟩ : ByteArray).data.toList = _ from py.out] at t2
        have HR3 : Hid (isPtr w3 (ptr b) ∧ ReAt w3 (ptr b) L ∧ Below w.heap.size w w3) := ⟨HR2.out.1.below hB3, HS.out.keepR _ _ _ _ HR2.out.2.1 hB3, HR2.out.2.2.trans (hB3.mono HR2.out.2.2.size)⟩
        clear HR2 hB3 t1
        simp only [toldV]
        go_wp2_with fail
        refine t2.mono ?_
        rintro e w4 ⟨rfl, hB4⟩
        have tx := HS.out.text (ptr b) L w4 (HS.out.keep _ _ hA3.out hB4) (HR3.out.1.below hB4) (HS.out.keepR _ _ _ _ HR3.out.2.1 hB4) hok.out
        have HB4 : Hid (Below w.heap.size w w4) := HR3.out.2.2.trans (hB4.mono HR3.out.2.2.size)
        clear HR3 hB4 t2
        simp only [toldV]
        go_wp2_with (go_at_call 11; refine tx.mono ?_; rintro e w5 ⟨rfl, hB5⟩)
        go_ret
        exact ⟨by simp, HB4.out.trans (hB5.mono HB4.out.size)⟩
end
end Go.Proofs.YtlekfdkahlobiaaGreatDoor.Re
