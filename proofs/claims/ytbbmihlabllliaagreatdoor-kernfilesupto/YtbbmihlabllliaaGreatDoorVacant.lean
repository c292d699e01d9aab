/- The contract of the way to a place for one more entry. -/
import Derived.Test.YtbbmihlabllliaaGreatDoorSeek
import Derived.Test.YtbbmihlabllliaaGreatDoorFile
namespace Go.Proofs.YtbbmihlabllliaaGreatDoor
open Go.RowKit Go.Shelf Go.Maps

theorem seekF_cases {g : Graph} (hcl : Closed g) {root home : Nat} {s : ByteArray} {non : Int} (h0 : (g root).isSome = true) (h1 : (g home).isSome = true) :
    (∃ e, (e = non ∨ e ≠ 0) ∧ seekF g root home s non = .error e) ∨ (∃ d x D, g d = some (x, D) ∧ x.dir = true ∧ isNm (lastS s) = true ∧ seekF g root home s non = .ok ⟨d, lastS s, look D (sk (lastS s)), isEnd s⟩) := by
  rw [seekF]
  generalize lastS s = l
  have hst : (g (if isAbs s = true then root else home)).isSome = true := by
    by_cases ha : isAbs s = true
    · rw [if_pos ha]; exact h0
    · rw [if_neg ha]; exact h1
  by_cases he : s.toList.isEmpty = true
  · exact .inl ⟨1, .inr (by decide), by rw [if_pos he]⟩
  · rw [if_neg he]
    cases htd : toDir g (if isAbs s = true then root else home) (aheadS s) with
    | error e' => exact .inl ⟨e', .inr (toDir_err hcl hst htd), rfl⟩
    | ok d =>
      obtain ⟨x, D, hgd, hd⟩ := toDir_ok hcl hst htd
      simp only [hgd]
      by_cases hl : (l.toList.isEmpty || isDot l) = true
      · exact .inl ⟨non, .inl rfl, by rw [if_pos hl]⟩
      · rw [if_neg hl]
        by_cases hn : isNm l = false
        · exact .inl ⟨13, .inr (by decide), by rw [if_pos hn]⟩
        · exact .inr ⟨d, x, D, hgd, hd, by simpa using hn, by rw [if_neg hn]⟩
theorem seekF_err {g : Graph} (hcl : Closed g) {root home : Nat} {s : ByteArray} {non e : Int} (hn : non ≠ 0) (h0 : (g root).isSome = true) (h1 : (g home).isSome = true) (h : seekF g root home s non = .error e) : e ≠ 0 := by
  rcases seekF_cases (s := s) (non := non) hcl h0 h1 with ⟨e', h2, h3⟩ | ⟨d, x, D, _, _, _, h3⟩
  · rw [h3] at h; cases h
    rcases h2 with rfl | h2
    · exact hn
    · exact h2
  · rw [h3] at h; cases h
theorem seekF_ok {g : Graph} (hcl : Closed g) {root home : Nat} {s : ByteArray} {non : Int} {p : Plc} (h0 : (g root).isSome = true) (h1 : (g home).isSome = true) (h : seekF g root home s non = .ok p) :
    ∃ x D, g p.dir = some (x, D) ∧ x.dir = true ∧ p.name = lastS s ∧ p.node = look D (sk (lastS s)) ∧ p.slash = isEnd s ∧ isNm (lastS s) = true := by
  rcases seekF_cases (s := s) (non := non) hcl h0 h1 with ⟨e', h2, h3⟩ | ⟨d, x, D, hg, hd, hn, h3⟩
  · rw [h3] at h; cases h
  · rw [h3] at h; cases h
    exact ⟨x, D, hg, hd, rfl, rfl, rfl, hn⟩

set_option maxRecDepth 100000 in
set_option maxHeartbeats 4000000 in
theorem vacant_err (g : Graph) (hcl : Closed g) (t root home : Nat) (fm nm la : Value) (s : ByteArray) (dir : Bool) (m e : Int) (w : World) (hs : s.size ≤ 2147483648) (hA : Amb g m w) (hT : TrAt w t (ptr root) fm nm la) (h0 : (g root).isSome = true) (h1 : (g home).isSome = true)
    (he : seekF g root home s 2 = .error e) :
    Calls Tryz.prog 112 #[.pointer (some ⟨t, 0, none⟩), .pointer (some ⟨home, 0, none⟩), .string s, .bool dir] w fun r w' => r = .returned (.tuple #[zeroP, .int .i64 e]) ∧ Below w.heap.size w w' := by
  have hne : e ≠ 0 := seekF_err hcl (by decide) h0 h1 he
  have hne' : (e == 0) = false := by simpa using hne
  have hB1 : Below w.heap.size w (w.alloc (.cells #[.pointer none, .string ⟨#[]⟩, .pointer none, .bool false] 197)) := (Below.refl _ w).alloc (Nat.le_refl _) _
  have hA1 := hA.below hB1
  have hT1 := hT.below hB1 hT.lt
  have hP1 : PlAt (w.alloc (.cells #[.pointer none, .string ⟨#[]⟩, .pointer none, .bool false] 197)) w.heap.size _ _ _ _ := al_new _ _ rfl
  have hS1 : (w.alloc (.cells #[.pointer none, .string ⟨#[]⟩, .pointer none, .bool false] 197)).heap.size = w.heap.size + 1 := World.size_alloc _ _
  have hsk := seek_c g hcl t root home fm nm la s 2 m _ hs hA1 hT1 h0 h1
  rw [he] at hsk
  simp only [seekV, zeroP] at hsk
  clear hA hT hA1 hT1
  go_enter Tryz.func112, Tryz.ntmps112
  go_wp2_with (go_at_call 127; refine hsk.mono ?_; rintro r w2 ⟨rfl, hB2⟩; have hP2 := hP1.below hB2 hP1.lt; have hS2 := hB2.size; have hB20 : Below w.heap.size w w2 := hB1.trans (hB2.mono (by omega)); have hP3 : ∀ o, PlAt (w2.alloc o) w.heap.size (.pointer none) (.string ⟨#[]⟩) (.pointer none) (.bool false) := fun o => al_old o hP2; have q0 := fun o => (hP3 o).c0; have q1 := fun o => (hP3 o).c1; have q2 := fun o => (hP3 o).c2; have q3 := fun o => (hP3 o).c3; have z0 := fun o => (hP3 o).fz 0; have z1 := fun o => (hP3 o).fz 1; have z2 := fun o => (hP3 o).fz 2; have z3 := fun o => (hP3 o).fz 3)
  refine bodyPost_ret (results_p rfl rfl ((hP3 _).set _ _ _ _) rfl) rfl ?_
  exact ⟨rfl, set4_below (hB20.alloc (by omega) _) (Nat.le_refl _) _ _ _ _⟩

set_option maxRecDepth 100000 in
set_option maxHeartbeats 4000000 in
theorem vacant_slash (g : Graph) (hcl : Closed g) (t root home d : Nat) (nme : ByteArray) (fm nm la : Value) (s : ByteArray) (m : Int) (w : World) (hs : s.size ≤ 2147483648) (hA : Amb g m w) (hT : TrAt w t (ptr root) fm nm la) (h0 : (g root).isSome = true) (h1 : (g home).isSome = true)
    (he : seekF g root home s 2 = .ok ⟨d, nme, .pointer none, true⟩) :
    Calls Tryz.prog 112 #[.pointer (some ⟨t, 0, none⟩), .pointer (some ⟨home, 0, none⟩), .string s, .bool false] w fun r w' => r = .returned (.tuple #[zeroP, .int .i64 3]) ∧ Below w.heap.size w w' := by
  have hB1 : Below w.heap.size w (w.alloc (.cells #[.pointer none, .string ⟨#[]⟩, .pointer none, .bool false] 197)) := (Below.refl _ w).alloc (Nat.le_refl _) _
  have hA1 := hA.below hB1
  have hT1 := hT.below hB1 hT.lt
  have hP1 : PlAt (w.alloc (.cells #[.pointer none, .string ⟨#[]⟩, .pointer none, .bool false] 197)) w.heap.size _ _ _ _ := al_new _ _ rfl
  have hS1 : (w.alloc (.cells #[.pointer none, .string ⟨#[]⟩, .pointer none, .bool false] 197)).heap.size = w.heap.size + 1 := World.size_alloc _ _
  have hsk := seek_c g hcl t root home fm nm la s 2 m _ hs hA1 hT1 h0 h1
  rw [he] at hsk
  simp only [seekV, placeV] at hsk
  clear hA hT hA1 hT1
  go_enter Tryz.func112, Tryz.ntmps112
  go_wp2_with (go_at_call 127; refine hsk.mono ?_; rintro r w2 ⟨rfl, hB2⟩; have hP2 := hP1.below hB2 hP1.lt; have hS2 := hB2.size; have hB20 : Below w.heap.size w w2 := hB1.trans (hB2.mono (by omega)); have hP3 : ∀ o, PlAt (w2.alloc o) w.heap.size (.pointer none) (.string ⟨#[]⟩) (.pointer none) (.bool false) := fun o => al_old o hP2; have q0 := fun o => (hP3 o).c0; have q1 := fun o => (hP3 o).c1; have q2 := fun o => (hP3 o).c2; have q3 := fun o => (hP3 o).c3; have z0 := fun o => (hP3 o).fz 0; have z1 := fun o => (hP3 o).fz 1; have z2 := fun o => (hP3 o).fz 2; have z3 := fun o => (hP3 o).fz 3)
  refine bodyPost_ret (results_p rfl rfl ((hP3 _).set _ _ _ _) rfl) rfl ?_
  exact ⟨rfl, set4_below (hB20.alloc (by omega) _) (Nat.le_refl _) _ _ _ _⟩

set_option maxRecDepth 100000 in
set_option maxHeartbeats 4000000 in
theorem vacant_ok (g : Graph) (hcl : Closed g) (t root home d k : Nat) (nme : ByteArray) (slash dir : Bool) (nm : Int) (fm la : Value) (s : ByteArray) (m : Int) (w : World) (hs : s.size ≤ 2147483648) (hA : Amb g m w) (hT : TrAt w t (ptr root) fm (.int .i64 nm) la) (h0 : (g root).isSome = true) (h1 : (g home).isSome = true)
    (he : seekF g root home s 2 = .ok ⟨d, nme, .pointer none, slash⟩) (hsl : (slash && !dir) = false) (hu : UpK w d k) (hk : k ≤ 9) (hnm : nm < 200) :
    Calls Tryz.prog 112 #[.pointer (some ⟨t, 0, none⟩), .pointer (some ⟨home, 0, none⟩), .string s, .bool dir] w fun r w' => r = .returned (.tuple #[plV d nme (.pointer none) slash, .int .i64 0]) ∧ Below w.heap.size w w' := by
  have hB1 : Below w.heap.size w (w.alloc (.cells #[.pointer none, .string ⟨#[]⟩, .pointer none, .bool false] 197)) := (Below.refl _ w).alloc (Nat.le_refl _) _
  have hA1 := hA.below hB1
  have hT1 := hT.below hB1 hT.lt
  have hP1 : PlAt (w.alloc (.cells #[.pointer none, .string ⟨#[]⟩, .pointer none, .bool false] 197)) w.heap.size _ _ _ _ := al_new _ _ rfl
  have hS1 : (w.alloc (.cells #[.pointer none, .string ⟨#[]⟩, .pointer none, .bool false] 197)).heap.size = w.heap.size + 1 := World.size_alloc _ _
  have hsk := seek_c g hcl t root home fm (.int .i64 nm) la s 2 m _ hs hA1 hT1 h0 h1
  rw [he] at hsk
  simp only [seekV, placeV] at hsk
  have hu1 := hu.below hB1
  have HU := Lib.hid hu1
  have HT := Lib.hid hT1
  have hk2 : ¬ ((10 : Int) < (k : Int) + 1) := by omega
  have hn2 : ¬ ((200 : Int) ≤ nm) := by omega
  clear hA hT hA1 hT1 hu hu1
  cases slash
  · go_enter Tryz.func112, Tryz.ntmps112
    go_wp2_with (first
    | (go_at_call 127; refine hsk.mono ?_; rintro r w2 ⟨rfl, hB2⟩; have hP2 := hP1.below hB2 hP1.lt; have hS2 := hB2.size; have hB20 : Below w.heap.size w w2 := hB1.trans (hB2.mono (by omega)); have hP3 : ∀ o, PlAt (w2.alloc o) w.heap.size (.pointer none) (.string ⟨#[]⟩) (.pointer none) (.bool false) := fun o => al_old o hP2; have q0 := fun o => (hP3 o).c0; have q1 := fun o => (hP3 o).c1; have q2 := fun o => (hP3 o).c2; have q3 := fun o => (hP3 o).c3; have z0 := fun o => (hP3 o).fz 0; have z1 := fun o => (hP3 o).fz 1; have z2 := fun o => (hP3 o).fz 2; have z3 := fun o => (hP3 o).fz 3; have hT2 := HT.out.below hB2 HT.out.lt; have t2 := fun o => (tr_alloc hT2 o).c2; have hU2 := HU.out.below hB2; have hU3 : ∀ o, UpK (w2.alloc o) d k := fun o => hU2.below ((Below.refl _ w2).alloc (Nat.le_refl _) _); have HU3 := Lib.hid hU3; clear hU3 hU2 hT2)
    | (go_at_call 153; refine (depth_c d k _ (by omega) (HU3.out _)).mono ?_; rintro r w3 ⟨rfl, hw3⟩; rw [hw3]))
    refine bodyPost_ret (results_p rfl rfl ((hP3 _).set _ _ _ _) rfl) rfl ?_
    exact ⟨rfl, set4_below (hB20.alloc (by omega) _) (Nat.le_refl _) _ _ _ _⟩
  · obtain rfl : dir = true := by simpa using hsl
    go_enter Tryz.func112, Tryz.ntmps112
    go_wp2_with (first
    | (go_at_call 127; refine hsk.mono ?_; rintro r w2 ⟨rfl, hB2⟩; have hP2 := hP1.below hB2 hP1.lt; have hS2 := hB2.size; have hB20 : Below w.heap.size w w2 := hB1.trans (hB2.mono (by omega)); have hP3 : ∀ o, PlAt (w2.alloc o) w.heap.size (.pointer none) (.string ⟨#[]⟩) (.pointer none) (.bool false) := fun o => al_old o hP2; have q0 := fun o => (hP3 o).c0; have q1 := fun o => (hP3 o).c1; have q2 := fun o => (hP3 o).c2; have q3 := fun o => (hP3 o).c3; have z0 := fun o => (hP3 o).fz 0; have z1 := fun o => (hP3 o).fz 1; have z2 := fun o => (hP3 o).fz 2; have z3 := fun o => (hP3 o).fz 3; have hT2 := HT.out.below hB2 HT.out.lt; have t2 := fun o => (tr_alloc hT2 o).c2; have hU2 := HU.out.below hB2; have hU3 : ∀ o, UpK (w2.alloc o) d k := fun o => hU2.below ((Below.refl _ w2).alloc (Nat.le_refl _) _); have HU3 := Lib.hid hU3; clear hU3 hU2 hT2)
    | (go_at_call 153; refine (depth_c d k _ (by omega) (HU3.out _)).mono ?_; rintro r w3 ⟨rfl, hw3⟩; rw [hw3]))
    refine bodyPost_ret (results_p rfl rfl ((hP3 _).set _ _ _ _) rfl) rfl ?_
    exact ⟨rfl, set4_below (hB20.alloc (by omega) _) (Nat.le_refl _) _ _ _ _⟩
end Go.Proofs.YtbbmihlabllliaaGreatDoor
