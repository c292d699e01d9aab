/- The contracts of Make. -/
import Derived.Test.YtbbmihlabllliaaGreatDoorVacant
namespace Go.Proofs.YtbbmihlabllliaaGreatDoor
open Go.RowKit Go.Shelf Go.Maps

set_option maxRecDepth 100000 in
set_option maxHeartbeats 4000000 in
theorem make_err (g : Graph) (hcl : Closed g) (t root home : Nat) (fm nm la : Value) (cwd s : ByteArray) (dir : Bool) (mode now m e : Int) (w : World) (hcs : cwd.size ≤ 2147483648) (_hs : s.size ≤ 2147483648) (hA : Amb g m w) (hT : TrAt w t (ptr root) fm nm la) (h0 : (g root).isSome = true) (_h1 : (g home).isSome = true)
    (hh : toDir g root cwd = .ok home) (hne : e ≠ 0)
    (hv : ∀ w2, Below w.heap.size w w2 → Calls Tryz.prog 112 #[.pointer (some ⟨t, 0, none⟩), .pointer (some ⟨home, 0, none⟩), .string s, .bool dir] w2 fun r w' => r = .returned (.tuple #[zeroP, .int .i64 e]) ∧ Below w2.heap.size w2 w') :
    Calls Tryz.prog 170 #[.pointer (some ⟨t, 0, none⟩), .string cwd, .string s, .bool dir, .int .i64 mode, .int .i64 now] w fun r w' => r = .returned (.tuple #[.int .i64 0, .int .i64 e]) ∧ Below w.heap.size w w' := by
  have hne' : (e == 0) = false := by simpa using hne
  have hho := home_c g hcl t root fm nm la cwd m w hcs hA hT h0
  rw [hh] at hho
  simp only [leadV, zeroP] at hho hv
  have HV := Lib.hid hv
  clear hA hT hv
  go_enter Tryz.func170, Tryz.ntmps170
  go_wp2_with (first
    | (go_at_call 109; refine hho.mono ?_; rintro r w2 ⟨rfl, hB2⟩; have hvv := HV.out w2 hB2)
    | (go_at_call 112; refine hvv.mono ?_; rintro r w3 ⟨rfl, hB3⟩))
  refine bodyPost_ret (results_tmp2 rfl _ _ _) rfl ?_
  exact ⟨rfl, (hB2.trans (hB3.mono hB2.size)).alloc (Nat.le_trans hB2.size hB3.size) _⟩

/-- Where a name is to stand. -/
structure Spot (g : Graph) (w : World) (t root home d k mb N : Nat) (nme : ByteArray) (slash : Bool) (nm : Int) (xd : Nd) (D : DataW Value) (s : ByteArray) : Prop where
  seek : seekF g root home s 2 = .ok ⟨d, nme, .pointer none, slash⟩
  up : UpK w d k
  kle : k ≤ 9
  nle : nm < 200
  nge : 0 ≤ nm
  nsz : nme.size ≤ 2147483648
  gd : g d = some (xd, D)
  nd : NdAt w d xd
  ent : xd.ents = .map (some mb)
  map : w.ownsMap Tryz.prog 9 R mb N D
  nn : N < 1000000

set_option maxRecDepth 100000 in
set_option maxHeartbeats 4000000 in
theorem make_file (g : Graph) (hcl : Closed g) (t root home d k mb N fb NF : Nat) (nme : ByteArray) (slash : Bool) (nm last : Int) (xd : Nd) (D F : DataW Value) (cwd s : ByteArray) (mode now m : Int) (w : World) (hcs : cwd.size ≤ 2147483648) (hs : s.size ≤ 2147483648) (hA : Amb g m w)
    (hT : TrAt w t (ptr root) (.map (some fb)) (.int .i64 nm) (.int .i64 last)) (h0 : (g root).isSome = true) (h1 : (g home).isSome = true) (hh : toDir g root cwd = .ok home) (hS : Spot g w t root home d k mb N nme slash nm xd D s) (hsl : slash = false)
    (hF : w.ownsMap Tryz.prog 3 R fb NF F) (hNF : NF < 1000000) (hmf : mb ≠ fb) (hl : 0 ≤ last) (hl2 : last < 4611686018427387904) :
    Calls Tryz.prog 170 #[.pointer (some ⟨t, 0, none⟩), .string cwd, .string s, .bool false, .int .i64 mode, .int .i64 now] w fun r w' => ∃ n md, r = .returned (.tuple #[.int .i64 (last + 1), .int .i64 0]) ∧ w.heap.size ≤ n ∧
      NdAt w' n ⟨last + 1, md, now, false, .pointer none, .map none, .slice none 0 0, 1, 0⟩ ∧ w'.ownsMap Tryz.prog 9 R mb (N + 1) (D.put (sk nme) (.held (ptr n))) ∧ w'.ownsMap Tryz.prog 3 R fb (NF + 1) (F.put (ik (last + 1)) (.held (ptr n))) ∧
      TrAt w' t (ptr root) (.map (some fb)) (.int .i64 (nm + 1)) (.int .i64 (last + 1)) ∧ Turn [t, fb, mb] w w' := by
  have hho := home_c g hcl t root (.map (some fb)) (.int .i64 nm) (.int .i64 last) cwd m w hcs hA hT h0
  rw [hh] at hho
  simp only [leadV] at hho
  have HV : Hid (∀ w2, Below w.heap.size w w2 → Calls Tryz.prog 112 #[.pointer (some ⟨t, 0, none⟩), .pointer (some ⟨home, 0, none⟩), .string s, .bool false] w2 fun r w' => r = .returned (.tuple #[plV d nme (.pointer none) slash, .int .i64 0]) ∧ Below w2.heap.size w2 w') :=
    fun w2 hB => vacant_ok g hcl t root home d k nme slash false nm _ _ s m w2 hs (hA.below hB) (hT.below hB hT.lt) h0 h1 hS.seek (by rw [hsl]; rfl) (hS.up.below hB) hS.kle hS.nle
  have hdt := nd_ne_tr hS.nd hT
  have hmt := tr_ne_map hT hS.map
  have hmd := nd_ne_map hS.nd hS.map
  have hft := tr_ne_map hT hF
  have hfd := nd_ne_map hS.nd hF
  have HM : Hid (∀ md w4, Below w.heap.size w w4 → Calls Tryz.prog 114 #[.pointer (some ⟨t, 0, none⟩), plV d nme (.pointer none) slash, .bool false, .int .i64 md, .int .i64 now] w4 fun r w' => ∃ n, r = .returned (.pointer (some ⟨n, 0, none⟩)) ∧ w.heap.size ≤ n ∧ w4.heap.size ≤ n ∧
      NdAt w' n ⟨last + 1, md, now, false, .pointer none, .map none, .slice none 0 0, 0, 0⟩ ∧ w'.ownsMap Tryz.prog 3 R fb (NF + 1) (F.put (ik (last + 1)) (.held (ptr n))) ∧ TrAt w' t (ptr root) (.map (some fb)) (.int .i64 nm) (.int .i64 (last + 1)) ∧ Turn [t, fb, mb] w w' ∧ NdAt w' d xd ∧ w'.ownsMap Tryz.prog 9 R mb N D ∧ Turn [t, fb] w4 w') := by
    intro md w4 hB
    have hT4 := hT.below hB hT.lt
    have hF4 := hF.kept (row := none) ⟨hB.os, hB.tape, hB.output, hB.size, fun k hk _ => hB.block k hk⟩ (by simp)
    have hM4 := hS.map.kept (row := none) ⟨hB.os, hB.tape, hB.output, hB.size, fun k hk _ => hB.block k hk⟩ (by simp)
    have hd4 := hS.nd.below hB hS.nd.lt
    refine (made_file t d fb NF nme slash md now last _ _ F w4 hT4 hF4 hNF hl hl2).mono ?_
    rintro r w5 ⟨n, rfl, hn, hN5, hF5, hT5, hU5⟩
    exact ⟨n, rfl, Nat.le_trans hB.size hn, hn, hN5, hF5, hT5, (Turn.below hB).trans (hU5.mono (by simp)), hU5.nd hd4 (by simp; omega), hU5.map hM4 (by simp; omega), hU5⟩
  have hnsz := hS.nsz
  have HS := Lib.hid hS
  have hdl := hS.nd.lt
  have hml := hS.map.lt
  have htl := hT.lt
  have hfl := hF.lt
  have hN := hS.nn
  have hn0 := hS.nge
  have hn1 := hS.nle
  clear hA hT hF hS
  subst hsl
  go_enter Tryz.func170, Tryz.ntmps170
  go_wp2_with (first
    | (go_at_call 109; refine hho.mono ?_; rintro r w2 ⟨rfl, hB2⟩; have hvv := HV.out w2 hB2)
    | (go_at_call 112; refine hvv.mono ?_; rintro r w3 ⟨rfl, hB3⟩; have hB30 : Below w.heap.size w w3 := hB2.trans (hB3.mono hB2.size); have hz3 := hB30.size)
    | (go_at_call 114; refine (HM.out _ _ (hB30.alloc hz3 _)).mono ?_; rintro r w5 ⟨n, rfl, hn, hn4, hN5, hF5, hT5, hU5, hd5, hM5, hU45⟩; rw [World.size_alloc] at hn4; have hP5 : PlAt w5 w3.heap.size (.pointer (some ⟨d, 0, none⟩)) (.string nme) (.pointer none) (.bool false) := (hU45.block _ (by simp) (by simp; omega)).trans (al_new _ _ rfl); have p0 := hP5.c0; have p1 := hP5.c1; have p2 := hP5.c2; have p3 := hP5.c3; have hput := put_c t d n mb N nme (.pointer none) (.inl rfl) false nm _ _ _ D xd _ w5 hnsz hT5 hd5 HS.out.ent hM5 hN5 (by omega) hN hn0 (by omega) (show (0 : Int) ≤ 0 by decide) (show (0 : Int) < 4611686018427387904 by decide))
    | (go_at_call 113; refine hput.mono ?_; rintro r w6 ⟨⟨v6, rfl⟩, hM6, hn6, hT6, hU6⟩; have e60 := hn6.c0))
  refine bodyPost_ret (results_tmp2 rfl _ _ _) rfl ?_
  have hnt : n ≠ t := by omega
  have hnm : n ≠ mb := by omega
  have hnf : n ≠ fb := by omega
  refine ⟨n, _, rfl, hn, hn6, hM6, hU6.map hF5 (by simp; omega), hT6, ?_⟩
  exact ⟨hU6.os.trans hU5.os, hU6.tape.trans hU5.tape, hU6.output.trans hU5.output, Nat.le_trans hU5.size hU6.size, fun j hj hs => (hU6.block j (Nat.lt_of_lt_of_le hj hU5.size) (by simp at hs ⊢; omega)).trans (hU5.block j hj hs)⟩

set_option maxRecDepth 100000 in
set_option maxHeartbeats 4000000 in
theorem make_dir (g : Graph) (hcl : Closed g) (t root home d k mb N fb _NF : Nat) (nme : ByteArray) (slash : Bool) (nm last : Int) (xd : Nd) (D _F : DataW Value) (cwd s : ByteArray) (mode now m : Int) (w : World) (hcs : cwd.size ≤ 2147483648) (hs : s.size ≤ 2147483648) (hA : Amb g m w)
    (hT : TrAt w t (ptr root) (.map (some fb)) (.int .i64 nm) (.int .i64 last)) (h0 : (g root).isSome = true) (h1 : (g home).isSome = true) (hh : toDir g root cwd = .ok home) (hS : Spot g w t root home d k mb N nme slash nm xd D s) (hsl : slash = false) (hl : 0 ≤ last) (hl2 : last < 4611686018427387904) :
    Calls Tryz.prog 170 #[.pointer (some ⟨t, 0, none⟩), .string cwd, .string s, .bool true, .int .i64 mode, .int .i64 now] w fun r w' => ∃ n md mb2, r = .returned (.tuple #[.int .i64 (last + 1), .int .i64 0]) ∧ w.heap.size ≤ n ∧ w.heap.size ≤ mb2 ∧
      NdAt w' n ⟨last + 1, md, now, true, ptr d, .map (some mb2), .slice none 0 0, 0, 0⟩ ∧ w'.ownsMap Tryz.prog 9 R mb (N + 1) (D.put (sk nme) (.held (ptr n))) ∧ w'.ownsMap Tryz.prog 9 R mb2 0 (.map []) ∧
      TrAt w' t (ptr root) (.map (some fb)) (.int .i64 (nm + 1)) (.int .i64 (last + 1)) ∧ Turn [t, mb] w w' := by
  have hho := home_c g hcl t root (.map (some fb)) (.int .i64 nm) (.int .i64 last) cwd m w hcs hA hT h0
  rw [hh] at hho
  simp only [leadV] at hho
  have HV : Hid (∀ w2, Below w.heap.size w w2 → Calls Tryz.prog 112 #[.pointer (some ⟨t, 0, none⟩), .pointer (some ⟨home, 0, none⟩), .string s, .bool true] w2 fun r w' => r = .returned (.tuple #[plV d nme (.pointer none) slash, .int .i64 0]) ∧ Below w2.heap.size w2 w') :=
    fun w2 hB => vacant_ok g hcl t root home d k nme slash true nm _ _ s m w2 hs (hA.below hB) (hT.below hB hT.lt) h0 h1 hS.seek (by rw [hsl]; rfl) (hS.up.below hB) hS.kle hS.nle
  have hdt := nd_ne_tr hS.nd hT
  have hmt := tr_ne_map hT hS.map
  have hmd := nd_ne_map hS.nd hS.map
  have HM : Hid (∀ md w4, Below w.heap.size w w4 → Calls Tryz.prog 114 #[.pointer (some ⟨t, 0, none⟩), plV d nme (.pointer none) slash, .bool true, .int .i64 md, .int .i64 now] w4 fun r w' => ∃ n mb2, r = .returned (.pointer (some ⟨n, 0, none⟩)) ∧ w.heap.size ≤ n ∧ w4.heap.size ≤ n ∧ w4.heap.size ≤ mb2 ∧ w.heap.size ≤ mb2 ∧
      NdAt w' n ⟨last + 1, md, now, true, ptr d, .map (some mb2), .slice none 0 0, 0, 0⟩ ∧ w'.ownsMap Tryz.prog 9 R mb2 0 (.map []) ∧ TrAt w' t (ptr root) (.map (some fb)) (.int .i64 nm) (.int .i64 (last + 1)) ∧ Turn [t, mb] w w' ∧ NdAt w' d xd ∧ w'.ownsMap Tryz.prog 9 R mb N D ∧ Turn [t] w4 w') := by
    intro md w4 hB
    have hT4 := hT.below hB hT.lt
    have hM4 := hS.map.kept (row := none) ⟨hB.os, hB.tape, hB.output, hB.size, fun k hk _ => hB.block k hk⟩ (by simp)
    have hd4 := hS.nd.below hB hS.nd.lt
    refine (made_dir t d nme slash md now last _ _ _ w4 hT4 hl hl2).mono ?_
    rintro r w5 ⟨n, mb2, rfl, hn, hm2, hN5, hF5, hT5, hU5⟩
    exact ⟨n, mb2, rfl, Nat.le_trans hB.size hn, hn, hm2, Nat.le_trans hB.size hm2, hN5, hF5, hT5, (Turn.below hB).trans (hU5.mono (by simp)), hU5.nd hd4 (by simp; omega), hU5.map hM4 (by simp; omega), hU5⟩
  have hnsz := hS.nsz
  have HS := Lib.hid hS
  have hdl := hS.nd.lt
  have hml := hS.map.lt
  have htl := hT.lt
  have hN := hS.nn
  have hn0 := hS.nge
  have hn1 := hS.nle
  clear hA hT hS
  subst hsl
  go_enter Tryz.func170, Tryz.ntmps170
  go_wp2_with (first
    | (go_at_call 109; refine hho.mono ?_; rintro r w2 ⟨rfl, hB2⟩; have hvv := HV.out w2 hB2)
    | (go_at_call 112; refine hvv.mono ?_; rintro r w3 ⟨rfl, hB3⟩; have hB30 : Below w.heap.size w w3 := hB2.trans (hB3.mono hB2.size); have hz3 := hB30.size)
    | (go_at_call 114; refine (HM.out _ _ (hB30.alloc hz3 _)).mono ?_; rintro r w5 ⟨n, mb2, rfl, hn, hn4, hm4, hm0, hN5, hF5, hT5, hU5, hd5, hM5, hU45⟩; rw [World.size_alloc] at hn4; have hP5 : PlAt w5 w3.heap.size (.pointer (some ⟨d, 0, none⟩)) (.string nme) (.pointer none) (.bool false) := (hU45.block _ (by simp) (by simp; omega)).trans (al_new _ _ rfl); have p0 := hP5.c0; have p1 := hP5.c1; have p2 := hP5.c2; have p3 := hP5.c3; have hput := put_c t d n mb N nme (.pointer none) (.inl rfl) false nm _ _ _ D xd _ w5 hnsz hT5 hd5 HS.out.ent hM5 hN5 (by omega) hN hn0 (by omega) (show (0 : Int) ≤ 0 by decide) (show (0 : Int) < 4611686018427387904 by decide))
    | (go_at_call 113; refine hput.mono ?_; rintro r w6 ⟨⟨v6, rfl⟩, hM6, hn6, hT6, hU6⟩; have e60 := hn6.c0))
  refine bodyPost_ret (results_tmp2 rfl _ _ _) rfl ?_
  have hnt : n ≠ t := by omega
  have hnm : n ≠ mb := by omega
  have hm2n := nd_ne_map hN5 hF5
  refine ⟨n, _, mb2, rfl, hn, hm0, hn6, hM6, hU6.map hF5 (by simp; omega), hT6, ?_⟩
  exact ⟨hU6.os.trans hU5.os, hU6.tape.trans hU5.tape, hU6.output.trans hU5.output, Nat.le_trans hU5.size hU6.size, fun j hj hs => (hU6.block j (Nat.lt_of_lt_of_le hj hU5.size) (by simp at hs ⊢; omega)).trans (hU5.block j hj hs)⟩
end Go.Proofs.YtbbmihlabllliaaGreatDoor
