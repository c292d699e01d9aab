/- The contracts of Link, and of a Rename below itself. -/
import Derived.Test.YtcldnodmlmmjbaaGreatDoorFind
namespace Go.Proofs.YtcldnodmlmmjbaaGreatDoor
open Go.RowKit Go.Shelf Go.Maps

set_option maxRecDepth 100000 in
set_option maxHeartbeats 4000000 in
theorem link_file (g : Graph) (hcl : Closed g) (t root home d k mb N n : Nat) (nme : ByteArray) (nm : Int) (fm la : Value) (xd x : Nd) (D : DataW Value) (cwd old s : ByteArray) (m : Int) (w : World) (hcs : cwd.size ≤ 2147483648) (hos : old.size ≤ 2147483648) (hs : s.size ≤ 2147483648) (hA : Amb g m w)
    (hT : TrAt w t (ptr root) fm (.int .i64 nm) la) (h0 : (g root).isSome = true) (h1 : (g home).isSome = true) (hh : toDir g root cwd = .ok home) (hoe : old.toList.isEmpty = false) (hold : findF g root home old = .ok n) (hn : NdAt w n x) (hxd : x.dir = false) (hS : Spot g w t root home d k mb N nme false nm xd D s) (hdn : d ≠ n)
    (h3 : 0 ≤ x.links) (h4 : x.links < 4611686018427387904) :
    Calls Tryz.prog 29 #[.pointer (some ⟨t, 0, none⟩), .string cwd, .string old, .string s] w fun r w' => r = .returned (.int .i64 0) ∧ NdAt w' n { x with links := x.links + 1 } ∧ w'.ownsMap Tryz.prog 9 R mb (N + 1) (D.put (sk nme) (.held (ptr n))) ∧ TrAt w' t (ptr root) fm (.int .i64 (nm + 1)) la ∧ Turn [mb, t, n] w w' := by
  have hho := home_c g hcl t root fm (.int .i64 nm) la cwd m w hcs hA hT h0
  rw [hh] at hho
  simp only [leadV] at hho
  have HF : Hid (∀ w2, Below w.heap.size w w2 → Calls Tryz.prog 64 #[.pointer (some ⟨t, 0, none⟩), .pointer (some ⟨home, 0, none⟩), .string old] w2 fun e w' => e = .returned (.tuple #[.pointer (some ⟨n, 0, none⟩), .int .i64 0]) ∧ Below w2.heap.size w2 w') := fun w2 hB => by
    have h := findFrom_c g hcl t root home fm (.int .i64 nm) la old m w2 hos (hA.below hB) (hT.below hB hT.lt) h0 h1 hoe
    rw [hold] at h
    exact h
  have HV : Hid (∀ w2, Below w.heap.size w w2 → Calls Tryz.prog 58 #[.pointer (some ⟨t, 0, none⟩), .pointer (some ⟨home, 0, none⟩), .string s, .bool false] w2 fun r w' => r = .returned (.tuple #[plV d nme (.pointer none) false, .int .i64 0]) ∧ Below w2.heap.size w2 w') :=
    fun w2 hB => vacant_ok g hcl t root home d k nme false false nm _ _ s m w2 hs (hA.below hB) (hT.below hB hT.lt) h0 h1 hS.seek rfl (hS.up.below hB) hS.kle hS.nle
  have HP : Hid (∀ w2, Below w.heap.size w w2 → Calls Tryz.prog 60 #[.pointer (some ⟨t, 0, none⟩), plV d nme (.pointer none) false, .pointer (some ⟨n, 0, none⟩)] w2 fun e w' => (∃ v, e = .returned v) ∧
      w'.ownsMap Tryz.prog 9 R mb (N + 1) (D.put (sk nme) (.held (ptr n))) ∧ NdAt w' n { x with links := x.links + 1 } ∧ TrAt w' t (ptr root) fm (.int .i64 (nm + 1)) la ∧ Turn [mb, t, n] w w') := fun w2 hB => by
    have hM4 := hS.map.kept (row := none) ⟨hB.os, hB.tape, hB.output, hB.size, fun k hk _ => hB.block k hk⟩ (by simp)
    refine (put_c t d n mb N nme (.pointer none) (.inl rfl) false nm _ fm la D xd x w2 hS.nsz (hT.below hB hT.lt) (hS.nd.below hB hS.nd.lt) hS.ent hM4 (hn.below hB hn.lt) hdn hS.nn hS.nge (by have := hS.nle; omega) h3 h4).mono ?_
    rintro r w5 ⟨hv, hM5, hn5, hT5, hU5⟩
    have hp : putN d x = { x with links := x.links + 1 } := by rw [putN, if_neg (by rw [hxd]; decide)]
    rw [hp] at hn5
    exact ⟨hv, hM5, hn5, hT5, (Turn.below hB).trans hU5⟩
  have HN : Hid (∀ w4, Below w.heap.size w w4 → w4.cell? ⟨n, 3, none⟩ = some (.bool false)) := fun w4 hB => by rw [← hxd]; exact (hn.below hB hn.lt).c3
  clear hA hT hn hS
  go_enter Tryz.func29, Tryz.ntmps29
  go_wp2_with (first
    | (go_at_call 54; refine hho.mono ?_; rintro r w2 ⟨rfl, hB2⟩; have hff := HF.out w2 hB2)
    | (go_at_call 64; refine hff.mono ?_; rintro r w3 ⟨rfl, hB3⟩; have hB30 : Below w.heap.size w w3 := hB2.trans (hB3.mono hB2.size); have c3 := HN.out _ hB30; have hvv := HV.out _ hB30)
    | (go_at_call 58; refine hvv.mono ?_; rintro r w4 ⟨rfl, hB4⟩; have hB40 : Below w.heap.size w w4 := hB30.trans (hB4.mono hB30.size); have hz4 := hB40.size)
    | (go_at_call 60; refine (HP.out _ (hB40.alloc hz4 _)).mono ?_; rintro r w5 ⟨⟨v5, rfl⟩, hM5, hn5, hT5, hU5⟩))
  go_ret
  exact ⟨rfl, hn5, hM5, hT5, hU5⟩

set_option maxRecDepth 100000 in
set_option maxHeartbeats 4000000 in
theorem within_same (b : Nat) (w : World) : Calls Tryz.prog 99 #[.pointer (some ⟨b, 0, none⟩), .pointer (some ⟨b, 0, none⟩)] w fun r w' => r = .returned (.bool true) ∧ w' = w := by
  have h1 := neq_same ⟨b, 0, none⟩ w
  have h2 := eql_same ⟨b, 0, none⟩ w
  go_enter Tryz.func99, Tryz.ntmps99
  go_wp2
  go_loopw [0] (fun i wr => i = .pointer (some ⟨b, 0, none⟩) ∧ wr = w) (fun _ _ => 0)
  case atStart => exact ⟨rfl, rfl⟩
  case round =>
    obtain ⟨rfl, rfl⟩ := hrel
    go_wp2
    go_ret
    exact ⟨rfl, rfl⟩

set_option maxRecDepth 100000 in
set_option maxHeartbeats 4000000 in
theorem stand_inval (d b h : Nat) (n1 n2 : ByteArray) (s1 s2 : Bool) (x : Nd) (w : World) (hn : NdAt w b x) (hd : x.dir = true) :
    Calls Tryz.prog 56 #[plV d n1 (.pointer (some ⟨b, 0, none⟩)) s1, plV b n2 (.pointer none) s2, .pointer (some ⟨h, 0, none⟩)] w fun r w' => r = .returned (.int .i64 16) ∧ Below w.heap.size w w' := by
  have c3 : ∀ o o', ((w.alloc o).alloc o').cell? ⟨b, 3, none⟩ = some (.bool true) := fun o o' => by rw [← hd]; exact (nd_alloc (nd_alloc hn o) o').c3
  have hl := hn.lt
  clear hn
  go_enter Tryz.func56, Tryz.ntmps56
  go_wp2_with (go_at_call 99; refine (within_same b _).mono ?_; rintro r w2 ⟨rfl, hw⟩; rw [hw])
  go_ret
  exact ⟨rfl, ((Below.refl _ w).alloc (Nat.le_refl _) _).alloc (by simp) _⟩

set_option maxRecDepth 100000 in
set_option maxHeartbeats 4000000 in
theorem rename_inval (g : Graph) (hcl : Closed g) (t root home d b : Nat) (n1 n2 : ByteArray) (fm nm la : Value) (x : Nd) (cwd old s : ByteArray) (m : Int) (w : World) (hcs : cwd.size ≤ 2147483648) (hos : old.size ≤ 2147483648) (hs : s.size ≤ 2147483648) (hA : Amb g m w) (hT : TrAt w t (ptr root) fm nm la) (h0 : (g root).isSome = true) (h1 : (g home).isSome = true)
    (hh : toDir g root cwd = .ok home) (he1 : seekF g root home old 15 = .ok ⟨d, n1, ptr b, false⟩) (he2 : seekF g root home s 15 = .ok ⟨b, n2, .pointer none, false⟩) (hn : NdAt w b x) (hxd : x.dir = true) :
    Calls Tryz.prog 19 #[.pointer (some ⟨t, 0, none⟩), .string cwd, .string old, .string s] w fun r w' => r = .returned (.int .i64 16) ∧ Below w.heap.size w w' := by
  have hho := home_c g hcl t root fm nm la cwd m w hcs hA hT h0
  rw [hh] at hho
  simp only [leadV] at hho
  have HV1 : Hid (∀ w2, Below w.heap.size w w2 → Calls Tryz.prog 55 #[.pointer (some ⟨t, 0, none⟩), .pointer (some ⟨home, 0, none⟩), .string old, .int .i64 15] w2 fun r w' => r = .returned (.tuple #[.agg #[.pointer (some ⟨d, 0, none⟩), .string n1, .pointer (some ⟨b, 0, none⟩), .bool false], .int .i64 0]) ∧ Below w2.heap.size w2 w') := fun w2 hB => by
    have h := seek_c g hcl t root home fm nm la old 15 m w2 hos (hA.below hB) (hT.below hB hT.lt) h0 h1
    rw [he1] at h
    exact h
  have HV2 : Hid (∀ w2, Below w.heap.size w w2 → Calls Tryz.prog 55 #[.pointer (some ⟨t, 0, none⟩), .pointer (some ⟨home, 0, none⟩), .string s, .int .i64 15] w2 fun r w' => r = .returned (.tuple #[.agg #[.pointer (some ⟨b, 0, none⟩), .string n2, .pointer none, .bool false], .int .i64 0]) ∧ Below w2.heap.size w2 w') := fun w2 hB => by
    have h := seek_c g hcl t root home fm nm la s 15 m w2 hs (hA.below hB) (hT.below hB hT.lt) h0 h1
    rw [he2] at h
    exact h
  have HN : Hid (∀ w4, Below w.heap.size w w4 → NdAt w4 b x) := fun w4 hB => hn.below hB hn.lt
  clear hA hT hn
  go_enter Tryz.func19, Tryz.ntmps19
  go_wp2_with (first
    | (go_at_call 54; refine hho.mono ?_; rintro r w2 ⟨rfl, hB2⟩; have hv1 := HV1.out w2 hB2)
    | (go_at_call 55; refine hv1.mono ?_; clear hv1; rintro r w3 ⟨rfl, hB3⟩; have hB30 : Below w.heap.size w w3 := hB2.trans (hB3.mono hB2.size); have hz3 := hB30.size; have hv2 := HV2.out _ (hB30.alloc hz3 (.cells #[.pointer (some ⟨d, 0, none⟩), .string n1, .pointer (some ⟨b, 0, none⟩), .bool false] 96)))
    | (go_at_call 55; refine hv2.mono ?_; rintro r w4 ⟨rfl, hB4⟩; rw [World.size_alloc] at hB4; have hz4 := hB4.size; rw [World.size_alloc] at hz4; have hB40 : Below w.heap.size w w4 := (hB30.alloc hz3 _).trans (hB4.mono (by omega)); have hP4 : ∀ o, PlAt (w4.alloc o) w3.heap.size (.pointer (some ⟨d, 0, none⟩)) (.string n1) (.pointer (some ⟨b, 0, none⟩)) (.bool false) := fun o => al_old o ((hB4.block _ (by omega)).trans (al_new _ _ rfl)); have p0 := fun o => (hP4 o).c0; have p1 := fun o => (hP4 o).c1; have p2 := fun o => (hP4 o).c2; have p3 := fun o => (hP4 o).c3; have c3 := fun o => (HN.out _ (hB40.alloc (by omega) o)).c3; rw [hxd] at c3; have hz5 := hB40.size)
    | (go_at_call 56; refine (stand_inval d b _ n1 n2 false false x _ (HN.out _ (hB40.alloc hz5 _)) hxd).mono ?_; rintro r w5 ⟨rfl, hB5⟩))
  go_ret
  exact ⟨rfl, (hB40.alloc hz5 _).trans (hB5.mono (by simp; omega))⟩
end Go.Proofs.YtcldnodmlmmjbaaGreatDoor
