/- The law RegexNodes. -/
import Derived.Test.YtlekfdkahlobiaaGreatDoorGLaw3
import Derived.Test.YtlekfdkahlobiaaGreatDoorHItems
namespace Go.Proofs.YtlekfdkahlobiaaGreatDoor.Re
open Go.RowKit

/-- What is asked of Node. -/
def NodeC (Amb : World → Prop) (ReAt : World → Value → Nd → Prop) : Prop := ∀ (v : Value) (x : Nd) (w : World), Amb w → isPtr w v → ReAt w v x → OkN x → Calls Tryz.prog 9 #[v] w fun e w' => ∃ u, e = .returned u ∧ NodeAt 54 w' u x ∧ Below w.heap.size w w'
section
variable {Amb : World → Prop} {ReAt : World → Value → Nd → Prop}
set_option maxHeartbeats 2000000 in
set_option maxRecDepth 100000 in
theorem nodes_law (S : Says Amb ReAt) (hNd : NodeC Amb ReAt) (s : ByteArray) (ext fold : Bool) (w : World) (hA : Amb w) (hs : s.size ≤ 1048576) :
    Calls Tryz.prog 3 #[.string s, .bool ext, .bool fold] w fun e w' => e = .returned (.bool true) ∧ Below w.heap.size w w' := by
  have haw := awake_c S w hA
  have HS := Lib.hid S
  have HN := Lib.hid hNd
  clear S hNd
  go_enter Tryz.func3, Tryz.ntmps3
  go_wp2_with fail
  refine haw.mono ?_
  rintro e w1 ⟨rfl, hB1⟩
  have hA1 := HS.out.keep _ _ hA hB1
  have hp := HS.out.parse s ext fold w1 hA1 hs
  clear haw
  cases hR : parseS ext fold s.data.toList with
  | error n =>
    rw [hR] at hp
    have hn : ((n : Int) != 0) = true := by rcases err_pos hR with rfl | rfl <;> rfl
    clear hR
    go_wp2_with fail
    refine hp.mono ?_
    rintro e w2 ⟨rfl, hB2⟩
    have HB : Hid (Below w.heap.size w w2) := hB1.trans (hB2.mono hB1.size)
    clear hp hB1 hB2
    go_wp2_with fail
    go_ret
    exact ⟨rfl, HB.out⟩
  | ok x =>
    rw [hR] at hp
    obtain ⟨hw, hz, hrd⟩ := parse_wf hR
    have HX : Hid (OkN x ∧ x.count ≤ 8388608 ∧ x.deep ≤ 10000 ∧ x.wf = true ∧ x.size ≤ 30000) := ⟨⟨hw, by omega⟩, by have := read_cnt (fun y => Nat.le_succ y.count) hrd; have e : s.data.toList.length = s.size := rfl; omega, Nat.le_trans (deep_le x) hz, hw, by omega⟩
    clear hR hw hz hrd
    go_wp2_with fail
    refine hp.mono ?_
    rintro e w2 ⟨⟨v, rfl, hi2, hr2⟩, hB2⟩
    have hB2' := hB1.trans (hB2.mono hB1.size)
    have hA2 := HS.out.keep _ _ hA1 hB2
    have hn := HN.out v x w2 hA2 hi2 hr2 HX.out.1
    have H2 : Hid (Amb w2 ∧ isPtr w2 v ∧ ReAt w2 v x ∧ Below w.heap.size w w2) := ⟨hA2, hi2, hr2, hB2'⟩
    obtain ⟨rb, rfl, _⟩ := hi2
    clear hp hB1 hB2 hr2 hA1 hA2 hB2' hA
    go_wp2_with fail
    refine hn.mono ?_
    rintro e w3 ⟨u, rfl, hu, hB3⟩
    have hcp := copied_c x.deep x (Nat.le_refl _) HX.out.2.2.2.1 HX.out.2.1 u 0 w3 (by have := HX.out.2.2.1; omega) hu
    have H3 : Hid (Amb w3 ∧ isPtr w3 (ptr rb) ∧ ReAt w3 (ptr rb) x ∧ Below w.heap.size w w3) := ⟨HS.out.keep _ _ H2.out.1 hB3, H2.out.2.1.below hB3, HS.out.keepR _ _ _ _ H2.out.2.2.1 hB3, H2.out.2.2.2.trans (hB3.mono H2.out.2.2.2.size)⟩
    obtain ⟨ub, rfl, _⟩ := hu.ptr
    clear hn hu hB3 H2
    go_wp2_with fail
    refine hcp.mono ?_
    rintro e w4 ⟨b, rfl, hNb, hB4⟩
    have htx := text_ref x.deep x (Nat.le_refl _) HX.out.2.2.2.1 HX.out.2.2.2.2 (ptr b) w4 hNb.node
    have H4 : Hid (Amb w4 ∧ isPtr w4 (ptr rb) ∧ ReAt w4 (ptr rb) x ∧ Below w.heap.size w w4) := ⟨HS.out.keep _ _ H3.out.1 hB4, H3.out.2.1.below hB4, HS.out.keepR _ _ _ _ H3.out.2.2.1 hB4, H3.out.2.2.2.trans (hB4.mono H3.out.2.2.2.size)⟩
    clear hcp hNb hB4 H3
    go_wp2_with fail
    refine htx.mono ?_
    rintro e w5 ⟨rfl, hB5⟩
    have htr := HS.out.text (ptr rb) x w5 (HS.out.keep _ _ H4.out.1 hB5) (H4.out.2.1.below hB5) (HS.out.keepR _ _ _ _ H4.out.2.2.1 hB5) HX.out.1
    have H5 : Hid (Below w.heap.size w w5) := H4.out.2.2.2.trans (hB5.mono H4.out.2.2.2.size)
    clear htx hB5 H4
    go_wp2_with fail
    refine htr.mono ?_
    rintro e w6 ⟨rfl, hB6⟩
    have H6 : Hid (Below w.heap.size w w6) := H5.out.trans (hB6.mono H5.out.size)
    clear htr hB6 H5
    go_wp2_with fail
    go_ret
    exact ⟨by simp, H6.out⟩
end
end Go.Proofs.YtlekfdkahlobiaaGreatDoor.Re
