/- The contracts of Remove. -/
import Derived.Test.YtbbmihlabllliaaGreatDoorMake
namespace Go.Proofs.YtbbmihlabllliaaGreatDoor
open Go.RowKit Go.Shelf Go.Maps

set_option maxRecDepth 100000 in
set_option maxHeartbeats 4000000 in
theorem remove_err (g : Graph) (hcl : Closed g) (t root home : Nat) (fm nm la : Value) (cwd s : ByteArray) (dir : Bool) (m e : Int) (w : World) (hcs : cwd.size ≤ 2147483648) (hs : s.size ≤ 2147483648) (hA : Amb g m w) (hT : TrAt w t (ptr root) fm nm la) (h0 : (g root).isSome = true) (h1 : (g home).isSome = true)
    (hh : toDir g root cwd = .ok home) (he : seekF g root home s 15 = .error e) :
    Calls Tryz.prog 89 #[.pointer (some ⟨t, 0, none⟩), .string cwd, .string s, .bool dir] w fun r w' => r = .returned (.int .i64 e) ∧ Below w.heap.size w w' := by
  have hne : e ≠ 0 := seekF_err hcl (by decide) h0 h1 he
  have hne' : (e == 0) = false := by simpa using hne
  have hho := home_c g hcl t root fm nm la cwd m w hcs hA hT h0
  rw [hh] at hho
  simp only [leadV] at hho
  have HV : Hid (∀ w2, Below w.heap.size w w2 → Calls Tryz.prog 127 #[.pointer (some ⟨t, 0, none⟩), .pointer (some ⟨home, 0, none⟩), .string s, .int .i64 15] w2 fun r w' => r = .returned (.tuple #[.agg #[.pointer none, .string ⟨#[]⟩, .pointer none, .bool false], .int .i64 e]) ∧ Below w2.heap.size w2 w') := fun w2 hB => by
    have h := seek_c g hcl t root home fm nm la s 15 m w2 hs (hA.below hB) (hT.below hB hT.lt) h0 h1
    rw [he] at h
    exact h
  clear hA hT
  go_enter Tryz.func89, Tryz.ntmps89
  go_wp2_with (first
    | (go_at_call 109; refine hho.mono ?_; rintro r w2 ⟨rfl, hB2⟩; have hvv := HV.out w2 hB2)
    | (go_at_call 127; refine hvv.mono ?_; rintro r w3 ⟨rfl, hB3⟩))
  go_ret
  exact ⟨rfl, (hB2.trans (hB3.mono hB2.size)).alloc (Nat.le_trans hB2.size hB3.size) _⟩

set_option maxRecDepth 100000 in
set_option maxHeartbeats 4000000 in
theorem remove_file (g : Graph) (hcl : Closed g) (t root home d n mb N : Nat) (nme : ByteArray) (nm : Int) (fm la : Value) (xd x : Nd) (D : DataW Value) (cwd s : ByteArray) (m : Int) (w : World) (hcs : cwd.size ≤ 2147483648) (hs : s.size ≤ 2147483648) (hA : Amb g m w) (hT : TrAt w t (ptr root) fm (.int .i64 nm) la) (h0 : (g root).isSome = true) (h1 : (g home).isSome = true)
    (hh : toDir g root cwd = .ok home) (he : seekF g root home s 15 = .ok ⟨d, nme, ptr n, false⟩) (hns : nme.size ≤ 2147483648) (hd : NdAt w d xd) (hent : xd.ents = .map (some mb)) (hM : w.ownsMap Tryz.prog 9 R mb N D) (hn : NdAt w n x) (hxd : x.dir = false) (h3 : 1 ≤ x.links) (h4 : x.links < 4611686018427387904) (h5 : 1 ≤ nm) (h6 : nm < 4611686018427387904)
    (hk : x.links - 1 ≠ 0 ∨ x.links - 1 = 0 ∧ x.holds ≠ 0) :
    Calls Tryz.prog 89 #[.pointer (some ⟨t, 0, none⟩), .string cwd, .string s, .bool false] w fun r w' => r = .returned (.int .i64 0) ∧ w'.ownsMap Tryz.prog 9 R mb N (D.del (sk nme)) ∧ NdAt w' n { x with links := x.links - 1 } ∧ TrAt w' t (ptr root) fm (.int .i64 (nm - 1)) la ∧ Turn [mb, t, n] w w' := by
  have hho := home_c g hcl t root fm (.int .i64 nm) la cwd m w hcs hA hT h0
  rw [hh] at hho
  simp only [leadV] at hho
  have HV : Hid (∀ w2, Below w.heap.size w w2 → Calls Tryz.prog 127 #[.pointer (some ⟨t, 0, none⟩), .pointer (some ⟨home, 0, none⟩), .string s, .int .i64 15] w2 fun r w' => r = .returned (.tuple #[.agg #[.pointer (some ⟨d, 0, none⟩), .string nme, .pointer (some ⟨n, 0, none⟩), .bool false], .int .i64 0]) ∧ Below w2.heap.size w2 w') := fun w2 hB => by
    have h := seek_c g hcl t root home fm (.int .i64 nm) la s 15 m w2 hs (hA.below hB) (hT.below hB hT.lt) h0 h1
    rw [he] at h
    exact h
  have hml := hM.lt
  have htl := hT.lt
  have hnl := hn.lt
  have htake : takeN x = { x with links := x.links - 1 } := by rw [takeN, if_neg (by rw [hxd]; decide)]
  have HM : Hid (∀ w4, Below w.heap.size w w4 → Calls Tryz.prog 129 #[.pointer (some ⟨t, 0, none⟩), plV d nme (.pointer (some ⟨n, 0, none⟩)) false] w4 fun e w' => (∃ v, e = .returned v) ∧
      w'.ownsMap Tryz.prog 9 R mb N (D.del (sk nme)) ∧ NdAt w' n { x with links := x.links - 1 } ∧ TrAt w' t (ptr root) fm (.int .i64 (nm - 1)) la ∧ Turn [mb, t, n] w4 w' ∧ Turn [mb, t, n] w w' ∧ Calls Tryz.prog 130 #[.pointer (some ⟨t, 0, none⟩), .pointer (some ⟨n, 0, none⟩)] w' fun e w5 => (∃ v, e = .returned v) ∧ w5 = w') := by
    intro w4 hB
    have hM4 := hM.kept (row := none) ⟨hB.os, hB.tape, hB.output, hB.size, fun k hk _ => hB.block k hk⟩ (by simp)
    refine (take_c t d n mb N nme false nm _ fm la D xd x w4 hns (hT.below hB hT.lt) (hd.below hB hd.lt) hent hM4 (hn.below hB hn.lt) (by omega) h6 (by omega) h4).mono ?_
    rintro r w5 ⟨hv, hM5, hn5, hT5, hU5⟩
    rw [htake] at hn5
    exact ⟨hv, hM5, hn5, hT5, hU5, (Turn.below hB).trans hU5, drain_held t n _ w5 hn5 hxd hk⟩
  have HN : Hid (∀ w4, Below w.heap.size w w4 → w4.cell? ⟨n, 3, none⟩ = some (.bool false)) := fun w4 hB => by rw [← hxd]; exact (hn.below hB hn.lt).c3
  clear hA hT hd hn hM
  go_enter Tryz.func89, Tryz.ntmps89
  go_wp2_with (first
    | (go_at_call 109; refine hho.mono ?_; rintro r w2 ⟨rfl, hB2⟩; have hvv := HV.out w2 hB2)
    | (go_at_call 127; refine hvv.mono ?_; rintro r w3 ⟨rfl, hB3⟩; have hB30 : Below w.heap.size w w3 := hB2.trans (hB3.mono hB2.size); have hz3 := hB30.size; have c3 := fun o => HN.out _ (hB30.alloc hz3 o))
    | (go_at_call 129; refine (HM.out _ (hB30.alloc hz3 _)).mono ?_; rintro r w5 ⟨⟨v5, rfl⟩, hM5, hn5, hT5, hU45, hU5, hdr⟩; have hP5 : PlAt w5 w3.heap.size (.pointer (some ⟨d, 0, none⟩)) (.string nme) (.pointer (some ⟨n, 0, none⟩)) (.bool false) := (hU45.block _ (by simp) (by simp; omega)).trans (al_new _ _ rfl); have p2 := hP5.c2)
    | (go_at_call 130; refine hdr.mono ?_; rintro r w6 ⟨⟨v6, rfl⟩, hw6⟩; rw [hw6]))
  go_ret
  exact ⟨rfl, hM5, hn5, hT5, hU5⟩
end Go.Proofs.YtbbmihlabllliaaGreatDoor
