/- The contracts of what takes a name away and what forgets a file; of the depth of a directory; of a new tree. -/
import Derived.LaidEqlPtr
import Derived.Test.YtbbmihlabllliaaGreatDoorOps
namespace Go.Proofs.YtbbmihlabllliaaGreatDoor
open Go.RowKit Go.Shelf Go.Maps

theorem info82k : (Tryz.prog.info? 134).map (·.size) = some 9 := by kernel_rfl
theorem info82 : ∃ j, Tryz.prog.info? 134 = some j ∧ j.size ≠ 0 := by
  have h := info82k
  cases hj : Tryz.prog.info? 134 with
  | none => rw [hj] at h; cases h
  | some j => rw [hj] at h; exact ⟨j, rfl, by simp at h; omega⟩
theorem under77 : Tryz.prog.underlying 129 = some (.pointer 134) := Tryz.underlying129
theorem neq_same (a : Addr) (w : World) : (binOp .neq 129 (.pointer (some a)) (.pointer (some a))).run Tryz.prog w = .ok (.bool false) w := by
  obtain ⟨j, hj, _⟩ := info82
  have h : ∀ d : Nat, (Op.equalIn (d + 1) 129 (.pointer (some a)) (.pointer (some a))).run Tryz.prog w = .ok true w := fun d => by
    simp [Op.equalIn, run_underlying under77, sizeOf, typeInfo, hj, run_sameAddr_same]
  simp only [binOp]
  simp [Op.equal, Op.maxDepth, h 9999]
theorem neq_other {w : World} {b c : Nat} {x y : Nd} (hne : b ≠ c) (hb : NdAt w b x) (hc : NdAt w c y) : (binOp .neq 129 (.pointer (some ⟨b, 0, none⟩)) (.pointer (some ⟨c, 0, none⟩))).run Tryz.prog w = .ok (.bool true) w := by
  obtain ⟨j, hj, hz⟩ := info82
  have hs := run_sameAddr_other (P := Tryz.prog) w (a := ⟨b, 0, none⟩) (b := ⟨c, 0, none⟩) (fun e => hne (by injection e)) hb hc
  have h : ∀ d : Nat, (Op.equalIn (d + 1) 129 (.pointer (some ⟨b, 0, none⟩)) (.pointer (some ⟨c, 0, none⟩))).run Tryz.prog w = .ok false w := fun d => by
    simp [Op.equalIn, run_underlying under77, sizeOf, typeInfo, hj, hz, hs]
  simp only [binOp]
  simp [Op.equal, Op.maxDepth, h 9999]
theorem eql_same (a : Addr) (w : World) : (binOp .eql 129 (.pointer (some a)) (.pointer (some a))).run Tryz.prog w = .ok (.bool true) w := by
  obtain ⟨j, hj, _⟩ := info82
  exact run_eql_ptr_same w a under77 hj
theorem eql_other {w : World} {b c : Nat} {x y : Nd} (hne : b ≠ c) (hb : NdAt w b x) (hc : NdAt w c y) : (binOp .eql 129 (.pointer (some ⟨b, 0, none⟩)) (.pointer (some ⟨c, 0, none⟩))).run Tryz.prog w = .ok (.bool false) w := by
  obtain ⟨j, hj, hz⟩ := info82
  exact run_eql_ptr_other w (a := ⟨b, 0, none⟩) (b := ⟨c, 0, none⟩) under77 hj hz (fun e => hne (by injection e)) hb hc

def takeN (x : Nd) : Nd := if x.dir = true then x else { x with links := x.links - 1 }

set_option maxRecDepth 100000 in
set_option maxHeartbeats 4000000 in
theorem take_c (t d n mb N : Nat) (name : ByteArray) (slash : Bool) (nm : Int) (r f la : Value) (D : DataW Value) (xd x : Nd) (w : World) (hs : name.size ≤ 2147483648)
    (hT : TrAt w t r f (.int .i64 nm) la) (hd : NdAt w d xd) (hent : xd.ents = .map (some mb)) (hM : w.ownsMap Tryz.prog 9 R mb N D) (hn : NdAt w n x) (h1 : 0 ≤ nm) (h2 : nm < 4611686018427387904) (h3 : 0 ≤ x.links) (h4 : x.links < 4611686018427387904) :
    Calls Tryz.prog 129 #[.pointer (some ⟨t, 0, none⟩), plV d name (.pointer (some ⟨n, 0, none⟩)) slash] w fun e w' => (∃ v, e = .returned v) ∧
      w'.ownsMap Tryz.prog 9 R mb N (D.del (sk name)) ∧ NdAt w' n (takeN x) ∧ TrAt w' t r f (.int .i64 (nm - 1)) la ∧ Turn [mb, t, n] w w' := by
  have hdt := nd_ne_tr hd hT
  have hnt := nd_ne_tr hn hT
  have hmd := nd_ne_map hd hM
  have hmn := nd_ne_map hn hM
  have hmt := tr_ne_map hT hM
  have hlt := hT.lt
  obtain ⟨o1, ho1⟩ : ∃ o1, o1 = Obj.cells #[.pointer (some ⟨d, 0, none⟩), .string name, .pointer (some ⟨n, 0, none⟩), .bool slash] 197 := ⟨_, rfl⟩
  obtain ⟨w1, hw1⟩ : ∃ w1, w1 = w.alloc o1 := ⟨_, rfl⟩
  have hb1 : (w.alloc o1).heap[w.heap.size]? = some o1 := al_new _ _ rfl
  have hd1 := nd_alloc hd o1
  have hn1 := nd_alloc hn o1
  have hT1 := tr_alloc hT o1
  have hM1 := hM.alloc o1
  have hU1 : Turn [mb, t, n] w (w.alloc o1) := Turn.alloc _ _
  rw [← hw1] at hb1 hd1 hn1 hT1 hM1 hU1
  rw [ho1] at hb1
  have k0 : w1.cell? ⟨w.heap.size, 0, none⟩ = some (.pointer (some ⟨d, 0, none⟩)) := by simp [World.cell?, hb1]
  have k1 : w1.cell? ⟨w.heap.size, 1, none⟩ = some (.string name) := by simp [World.cell?, hb1]
  have k2 : w1.cell? ⟨w.heap.size, 2, none⟩ = some (.pointer (some ⟨n, 0, none⟩)) := by simp [World.cell?, hb1]
  have k5 : w1.cell? ⟨d, 5, none⟩ = some (.map (some mb)) := by rw [← hent]; exact hd1.c5
  obtain ⟨w2, hrun, hown, hturn⟩ := (World.ownsMap.drew hM1).drop keyed9 under80 (key := .string name) (WideMaps.keyOf_string_mk Tryz.underlying9 (by unfold maxLen; omega)) 0
  have hgrow := hturn.grown
  have hU2 : Turn [mb] w1 w2 := ⟨hgrow.os, hgrow.tape, hgrow.output, hgrow.size, fun k hk hn => hgrow.block k hk (by simpa using hn)⟩
  have hmw : mb < w.heap.size := hM.lt
  have j2 := hU2.cell k2 (by simp; omega)
  have hT2 := hU2.tr hT1 (by simp; omega)
  have hn2 := hU2.nd hn1 (by simp; omega)
  have t2 := hT2.c2
  have tz := hT2.fz 2
  have hU : Turn [mb, t, n] w w2 := hU1.trans (hU2.mono (by simp))
  have hT4 := hT2.set2 (.int .i64 (nm - 1))
  have hn4 := nd_setCell hn2 (a := ⟨t, 2, none⟩) (.int .i64 (nm - 1)) hnt
  have hc4 := (World.cell?_setCell_far w2 ⟨t, 2, none⟩ ⟨w.heap.size, 2, none⟩ (.int .i64 (nm - 1)) (by simp; omega)).trans j2
  have e3 := hn4.c3
  have e7 := hn4.c7
  have y7 := hn4.fz 7
  rw [ho1] at hw1
  clear hb1 ho1 hd1 hn1 hT1 hM1 hU1 hT hd hn hM hgrow hturn
  cases hx : x.dir with
  | true =>
    rw [hx] at e3
    go_enter Tryz.func129, Tryz.ntmps129
    go_wp2_with fail
    rw [← hw1]
    clear hw1
    go_region
    go_wp2
    go_end0
    exact ⟨⟨_, rfl⟩, hown.setCell (a := ⟨t, 2, none⟩) hmt _, by rw [takeN, if_pos hx]; exact hn4, hT4, hU.trans (Turn.set _ _ _ _ (by simp))⟩
  | false =>
    rw [hx] at e3
    go_enter Tryz.func129, Tryz.ntmps129
    go_wp2_with fail
    rw [← hw1]
    clear hw1
    go_region
    go_wp2
    go_end0
    exact ⟨⟨_, rfl⟩, (hown.setCell (a := ⟨t, 2, none⟩) hmt _).setCell (a := ⟨n, 7, none⟩) hmn _, hn4.set 7 _ (by simp [Nd.arr, takeN, hx]), tr_setCell hT4 _ (fun e => hnt e.symm), (hU.trans (Turn.set _ _ _ _ (by simp))).trans (Turn.set _ _ _ _ (by simp))⟩

set_option maxRecDepth 100000 in
set_option maxHeartbeats 4000000 in
theorem drain_gone (t n fb N : Nat) (r nm la : Value) (F : DataW Value) (x : Nd) (w : World) (hT : TrAt w t r (.map (some fb)) nm la) (hn : NdAt w n x) (hF : w.ownsMap Tryz.prog 3 R fb N F) (hi : (Lit.int .i64 x.ino).wf = true)
    (hd : x.dir = false) (hl : x.links = 0) (hh : x.holds = 0) :
    Calls Tryz.prog 130 #[.pointer (some ⟨t, 0, none⟩), .pointer (some ⟨n, 0, none⟩)] w fun e w' => (∃ v, e = .returned v) ∧ w'.ownsMap Tryz.prog 3 R fb N (F.del (ik x.ino)) ∧ Turn [fb] w w' := by
  have e3 := hn.c3
  have e7 := hn.c7
  have e8 := hn.c8
  have e0 := hn.c0
  have t1 := hT.c1
  rw [hd] at e3; rw [hl] at e7; rw [hh] at e8
  obtain ⟨w2, hrun, hown, hturn⟩ := (World.ownsMap.drew hF).drop keyed3 under62 (key := .int .i64 x.ino) (keyOf_int_mk Tryz.underlying3 hi) 0
  have hgrow := hturn.grown
  have hU2 : Turn [fb] w w2 := ⟨hgrow.os, hgrow.tape, hgrow.output, hgrow.size, fun k hk hn => hgrow.block k hk (by simpa using hn)⟩
  clear hT hn hF hgrow hturn hd hl hh
  go_enter Tryz.func130, Tryz.ntmps130
  go_wp2_with fail
  go_region
  go_wp2
  go_end0
  exact ⟨⟨_, rfl⟩, hown, hU2⟩

set_option maxRecDepth 100000 in
set_option maxHeartbeats 4000000 in
theorem drain_held (t n : Nat) (x : Nd) (w : World) (hn : NdAt w n x) (hd : x.dir = false) (hh : x.links ≠ 0 ∨ x.links = 0 ∧ x.holds ≠ 0) :
    Calls Tryz.prog 130 #[.pointer (some ⟨t, 0, none⟩), .pointer (some ⟨n, 0, none⟩)] w fun e w' => (∃ v, e = .returned v) ∧ w' = w := by
  have e3 := hn.c3
  have e7 := hn.c7
  have e8 := hn.c8
  rw [hd] at e3
  clear hn hd
  rcases hh with hl | ⟨hl, hh⟩
  · have hl' : (x.links == 0) = false := by simpa using hl
    go_enter Tryz.func130, Tryz.ntmps130
    go_wp2
    go_end0
    exact ⟨⟨_, rfl⟩, rfl⟩
  · have hh' : (x.holds == 0) = false := by simpa using hh
    rw [hl] at e7
    go_enter Tryz.func130, Tryz.ntmps130
    go_wp2
    go_end0
    exact ⟨⟨_, rfl⟩, rfl⟩

/-- A directory k steps below the root. -/
def UpK (w : World) : Nat → Nat → Prop
  | b, 0 => ∃ x, NdAt w b x ∧ x.above = .pointer (some ⟨b, 0, none⟩)
  | b, k + 1 => ∃ x u, NdAt w b x ∧ x.above = .pointer (some ⟨u, 0, none⟩) ∧ u ≠ b ∧ UpK w u k
theorem UpK.below {w w' : World} (hb : Below w.heap.size w w') : ∀ {k b : Nat}, UpK w b k → UpK w' b k
  | 0, _b, ⟨x, h, e⟩ => ⟨x, h.below hb h.lt, e⟩
  | _k + 1, _b, ⟨x, u, h, e, hn, hr⟩ => ⟨x, u, h.below hb h.lt, e, hn, hr.below hb⟩

set_option maxRecDepth 100000 in
set_option maxHeartbeats 4000000 in
theorem depth_c (b k : Nat) (w : World) (hk : k ≤ 1000) (h : UpK w b k) : Calls Tryz.prog 153 #[.pointer (some ⟨b, 0, none⟩)] w fun e w' => e = .returned (.int .i64 k) ∧ w' = w := by
  have HU := Lib.hid h
  clear h
  go_enter Tryz.func153, Tryz.ntmps153
  go_wp2
  go_loopg [0, 3] k (fun g v0 v3 wx => wx = w ∧ ∃ c : Nat, v0 = .pointer (some ⟨c, 0, none⟩) ∧ (∃ j : Nat, v3 = .int .i64 j ∧ j + g = k) ∧ Hid (UpK w c g))
  case atStart => exact ⟨rfl, b, rfl, ⟨0, rfl, by omega⟩, HU.out⟩
  case round =>
    obtain ⟨rfl, c, rfl, ⟨j, rfl, hj⟩, H⟩ := hrel
    cases gk with
    | zero =>
      obtain ⟨x, hx, ha⟩ := H.out
      have e4 := hx.c4
      rw [ha] at e4
      have hnq := neq_same ⟨c, 0, none⟩ wr
      go_wp2
      go_ret
      exact ⟨by rw [← hj]; rfl, rfl⟩
    | succ g =>
      obtain ⟨x, u, hx, ha, hne, hu⟩ := H.out
      have e4 := hx.c4
      rw [ha] at e4
      obtain ⟨y, hy⟩ : ∃ y, NdAt wr u y := by
        cases g with
        | zero => obtain ⟨y, hy, _⟩ := hu; exact ⟨y, hy⟩
        | succ g => obtain ⟨y, _, hy, _⟩ := hu; exact ⟨y, hy⟩
      have hnq := neq_other hne hy hx
      have H2 := Lib.hid hu
      clear hu hy hx
      go_wp2
      go_roundg g
      case measure => omega
      case rel => exact ⟨rfl, u, rfl, ⟨j + 1, by go_num, by omega⟩, H2.out⟩

set_option maxRecDepth 100000 in
set_option maxHeartbeats 4000000 in
theorem new_c (w : World) : Calls Tryz.prog 58 #[] w fun e w' => ∃ t rt rm fm, e = .returned (.pointer (some ⟨t, 0, none⟩)) ∧ w.heap.size ≤ t ∧ w.heap.size ≤ rt ∧ w.heap.size ≤ rm ∧ w.heap.size ≤ fm ∧ rm ≠ fm ∧
    NdAt w' rt ⟨1, 493, 0, true, ptr rt, .map (some rm), .slice none 0 0, 0, 0⟩ ∧ w'.ownsMap Tryz.prog 9 R rm 0 (.map []) ∧ w'.ownsMap Tryz.prog 3 R fm 0 (.map []) ∧ TrAt w' t (ptr rt) (.map (some fm)) (.int .i64 0) (.int .i64 1) ∧ Below w.heap.size w w' := by
  have hmm := @run_makeMap Tryz.prog
  go_enter Tryz.func58, Tryz.ntmps58
  go_wp2
  go_ret
  refine ⟨w.heap.size + 1 + 1 + 1, w.heap.size + 1, w.heap.size, w.heap.size + 1 + 1, rfl, by omega, by omega, by omega, by omega, by omega, ?_, ?_, ?_, ?_, ?_⟩
  · exact al_old _ (al_old _ (al_new _ _ (by simp)))
  · exact (((World.ownsMap_made w Tryz.prog 9 R).alloc _).alloc _).alloc _
  · have h := World.ownsMap_made ((w.alloc (.map #[] 0)).alloc (.cells (Nd.arr ⟨1, 493, 0, true, ptr (w.heap.size + 1), .map (some w.heap.size), .slice none 0 0, 0, 0⟩) 134)) Tryz.prog 3 R
    simp only [World.size_alloc] at h
    exact h.alloc _
  · exact al_new _ _ (by simp)
  · exact ((((Below.refl _ w).alloc (Nat.le_refl _) _).alloc (by simp) _).alloc (by simp; omega) _).alloc (by simp; omega) _
end Go.Proofs.YtbbmihlabllliaaGreatDoor
