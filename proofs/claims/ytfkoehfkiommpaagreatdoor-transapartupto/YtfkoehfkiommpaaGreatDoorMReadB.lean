/- Machines that Run runs: a call is done at once. -/
import Derived.Test.YtfkoehfkiommpaaGreatDoorPWrite
namespace Go.Proofs.YtfkoehfkiommpaaGreatDoor
open Go.RowKit Go.Shelf Go.Maps

section
variable {w : World} {p kn tb kin : Nat} {args env box runs : Value} {cwd : ByteArray} {l1 l2 l3 held peak : Int} {isChild : Bool} {m : Nat} {main past next : Value} {told steps status : Int} {once : Bool}
set_option maxRecDepth 100000 in
set_option maxHeartbeats 2000000 in
theorem try_c {f : Nat} {z : Array Value} {Q : Nat → World → Prop} (h : McAt w m p main past told next once steps false status) (h0 : 0 ≤ steps) (h1 : steps < 4611686018427387904) (hcf : ∀ u : World, (callFunc f z).run Tryz.prog u = .ok (.enter f z) u)
    (hdo : ∀ u, McAt u m p main past told next once (steps + 1) false status → Turn [m] w u → Calls Tryz.prog f z u fun e u' => ∃ an err, e = .returned (ptr an) ∧ u'.cell? ⟨an, 10, none⟩ = some (.int .i64 err) ∧ err ≠ 10 ∧ err ≠ 8 ∧ McAt u' m p main past told next once (steps + 1) false status ∧ Q an u') :
    Calls Tryz.prog 110 #[ptr m, .func (.func f) #[] z] w fun e w' => ∃ an q u', e = .returned (.tuple #[ptr an, .bool true]) ∧ Q an u' ∧ McAt u' m p main past told next once (steps + 1) false status ∧ w' = u'.drewN q := by
  have c6 := h_cell h 6 rfl
  have z6 := h_fz h 6
  have hs := h_set h 6 (.int .i64 (steps + 1))
  have hcall := hdo (w.setCell ⟨m, 6, none⟩ (.int .i64 (steps + 1))) (by simpa using hs) (Turn.set w m 6 _ (by simp))
  clear h hdo hs
  go_enter Tryz.func110, Tryz.ntmps110
  go_wp2_with fail
  refine hcall.mono ?_
  rintro e u ⟨an, err, rfl, ce, he1, he2, hm2, hQ⟩
  have b1 : (err == 10) = false := by simpa using he1
  have b2 : (err == 8) = false := by simpa using he2
  have c7 := h_cell hm2 7 rfl
  have HM := Lib.hid hm2
  have HQ := Lib.hid hQ
  clear hcall c6 z6 he1 he2 hm2 hQ
  go_wp2_with fail
  go_quiet (fail)
  go_wp2
  go_ret2
  exact ⟨an, _, u, rfl, HQ.out, HM.out, rfl⟩
set_option maxRecDepth 100000 in
set_option maxHeartbeats 2000000 in
theorem ask_once {x : Option Addr} {n c : Nat} {f : Nat} {z : Array Value} {Q : Nat → World → Prop} (h : McAt w m p main (.slice x n c) told .nilFunc true steps false status) (hn : (n : Int) ≤ told) (h0 : 0 ≤ steps) (h1 : steps < 4611686018427387904) (hcf : ∀ u : World, (callFunc f z).run Tryz.prog u = .ok (.enter f z) u)
    (hdo : ∀ u, McAt u m p main (.slice x n c) told .nilFunc true (steps + 1) false status → Turn [m] w u → Calls Tryz.prog f z u fun e u' => ∃ an err, e = .returned (ptr an) ∧ u'.cell? ⟨an, 10, none⟩ = some (.int .i64 err) ∧ err ≠ 10 ∧ err ≠ 8 ∧ McAt u' m p main (.slice x n c) told .nilFunc true (steps + 1) false status ∧ Q an u') :
    Calls Tryz.prog 288 #[ptr m, .func (.func f) #[] z] w fun e w' => ∃ an q u', e = .returned (ptr an) ∧ Q an u' ∧ McAt u' m p main (.slice x n c) told .nilFunc true (steps + 1) false status ∧ w' = u'.drewN q := by
  have hr := retold_none h hn
  have hl : ∀ k, Calls Tryz.prog 135 #[ptr m] (w.drewN k) fun e w' => e = .returned (.bool false) ∧ w' = w.drewN k := fun k => isLeft_goes (w := w.drewN k) h
  have ht : ∀ k, Calls Tryz.prog 110 #[ptr m, .func (.func f) #[] z] (w.drewN k) fun e w' => ∃ an q u', e = .returned (.tuple #[ptr an, .bool true]) ∧ Q an u' ∧ McAt u' m p main (.slice x n c) told .nilFunc true (steps + 1) false status ∧ w' = u'.drewN q := fun k =>
    try_c (w := w.drewN k) h h0 h1 hcf (fun u hu hT => hdo u hu ⟨hT.os, hT.tape, hT.output, hT.size, hT.block⟩)
  have c5 := h_cell h 5 rfl
  have q1 := nilan_neq
  clear h hdo
  go_enter Tryz.func288, Tryz.ntmps288
  go_wp2_with (go_at_call 287; refine hr.mono ?_; rintro e w' ⟨rfl, k, hw'⟩; rw [hw']; clear hw')
  go_loopw [6, 7] (fun _ _ wr => wr = w.drewN k) (fun _ _ _ => 0)
  case atStart => rfl
  case round =>
    obtain rfl := hrel
    go_wp2_with (first
      | (go_at_call 135; refine (hl k).mono ?_; rintro e w' ⟨rfl, hw'⟩; rw [hw']; clear hw')
      | (go_at_call 110; refine (ht k).mono ?_; rintro e w' ⟨an, q, u', rfl, hQ, hM, hw'⟩; rw [hw']; clear hw'))
    go_ret
    exact ⟨an, q, u', rfl, hQ, hM, rfl⟩
set_option maxRecDepth 100000 in
set_option maxHeartbeats 2000000 in
theorem pask_once {x : Option Addr} {n c : Nat} {f : Nat} {z : Array Value} {Q : Nat → World → Prop} (hp : PrAt w p kn tb args env cwd l1 l2 l3 held peak box kin isChild (ptr m)) (h : McAt w m p main (.slice x n c) told .nilFunc true steps false status) (hn : (n : Int) ≤ told) (h0 : 0 ≤ steps) (h1 : steps < 4611686018427387904) (hcf : ∀ u : World, (callFunc f z).run Tryz.prog u = .ok (.enter f z) u)
    (hdo : ∀ u, McAt u m p main (.slice x n c) told .nilFunc true (steps + 1) false status → Turn [m] w u → Calls Tryz.prog f z u fun e u' => ∃ an err, e = .returned (ptr an) ∧ u'.cell? ⟨an, 10, none⟩ = some (.int .i64 err) ∧ err ≠ 10 ∧ err ≠ 8 ∧ McAt u' m p main (.slice x n c) told .nilFunc true (steps + 1) false status ∧ Q an u') :
    Calls Tryz.prog 265 #[ptr p, .func (.func f) #[] z] w fun e w' => ∃ an q u', e = .returned (ptr an) ∧ Q an u' ∧ McAt u' m p main (.slice x n c) told .nilFunc true (steps + 1) false status ∧ w' = u'.drewN q := by
  have ha := ask_once h hn h0 h1 hcf hdo
  have c13 := h_cell hp 13 rfl
  have q1 := mc_neq
  clear h hp hdo
  go_enter Tryz.func265, Tryz.ntmps265
  go_wp2_with (go_at_call 288; refine ha.mono ?_; rintro e w' ⟨an, q, u', rfl, hQ, hM, hw'⟩; rw [hw']; clear hw')
  go_ret
  exact ⟨an, q, u', rfl, hQ, hM, rfl⟩
end
/-- An answer. -/
abbrev AnAt (w : World) (a : Nat) (num : Int) (bv : Value) (err : Int) : Prop :=
  w.heap[a]? = some (.cells #[.int .i64 num, .int .i64 0, bv, .slice none 0 0, .int .i64 0, .bool false, .int .i64 0, .int .i64 0, .int .i64 0, .int .i64 0, .int .i64 err] 225)
set_option maxRecDepth 100000 in
set_option maxHeartbeats 2000000 in
/-- What a Read does with a step. -/
theorem read1_k {G : Gh} {w : World} {k : KC} {rv v1 v2 : Value} {a b c : Nat} (h : KI G w k rv v1 v2) (most : Nat) (hm : 1 ≤ most) (hL : k.rest.length ≤ 1048576) (hp : w.cell? ⟨G.p, 1, none⟩ = some (ptr G.tb))
    (ha : w.cell? ⟨a, 0, none⟩ = some (ptr G.p)) (hb : w.cell? ⟨b, 0, none⟩ = some (.int .i64 0)) (hc : w.cell? ⟨c, 0, none⟩ = some (.int .i64 most)) :
    Calls Tryz.prog 285 #[ptr a, ptr b, ptr c] w fun e w' => ∃ an bv rv', e = .returned (ptr an) ∧ AnAt w' an 0 bv (readS G.faults k most).1.err ∧ w.heap.size ≤ an ∧ w'.ownsRow w.heap.size 5 1 bv (readS G.faults k most).1.bytes.length (u8s (readS G.faults k most).1.bytes) ∧ KI G w' (readS G.faults k most).2 rv' v1 v2 ∧ Turn [G.kn, G.so] w w' := by
  have ht := tread_k (w := w.drew) (h.keep (S := []) (Turn.refl [] w).drew (by simp)) most hm hL
  generalize readS G.faults k most = A at ht ⊢
  clear h
  go_enter Tryz.func285, Tryz.ntmps285
  go_wp2_with fail
  go_region_with (go_at_call 286; refine ht.mono ?_; rintro e w2 ⟨bv, rv', rfl, ho, hK, hT⟩; obtain ⟨xa, xc, rfl⟩ := own_shape ho)
  all_goals
    go_wp2
    go_ret
    have hTa : Turn [] w2 (w2.alloc _) := Turn.alloc w2 (.cells #[.int .i64 0, .int .i64 0, .slice xa A.1.bytes.length xc, .slice none 0 0, .int .i64 0, .bool false, .int .i64 0, .int .i64 0, .int .i64 0, .int .i64 0, .int .i64 A.1.err] 225)
    exact ⟨w2.heap.size, _, rv', rfl, al_new _ _ rfl, hT.size, own_turn ho hTa (by simp), hK.keep hTa (by simp), Turn.trans ⟨hT.os, hT.tape, hT.output, hT.size, hT.block⟩ (hTa.mono (by simp))⟩
end Go.Proofs.YtfkoehfkiommpaaGreatDoor

namespace Go.Proofs.YtfkoehfkiommpaaGreatDoor
open Go.RowKit Go.Shelf Go.Maps

set_option maxRecDepth 100000 in
set_option maxHeartbeats 2000000 in
/-- What a Write does with a step. -/
theorem write1_k1 {G : Gh} {w : World} {k : KC} {rv v1 v2 : Value} {a b c : Nat} (h : KI G w k rv v1 v2) (bv : Value) (bs : List UInt8) (hbv : ByAt w bv bs) (h0 : bs ≠ []) (hL : bs.length ≤ 1048576) (hO : k.out.length ≤ 549755813888) (hbk : ∀ b off n c, bv = .slice (some ⟨b, off, none⟩) n c → b ≠ G.kn) (hp : w.cell? ⟨G.p, 1, none⟩ = some (ptr G.tb))
    (ha : w.cell? ⟨a, 0, none⟩ = some (ptr G.p)) (hb : w.cell? ⟨b, 0, none⟩ = some (.int .i64 1)) (hc : w.cell? ⟨c, 0, none⟩ = some bv) :
    Calls Tryz.prog 266 #[ptr a, ptr b, ptr c] w fun e w' => ∃ an v1', e = .returned (ptr an) ∧ AnAt w' an (writeS G.faults k false bs).1.num (.slice none 0 0) (writeS G.faults k false bs).1.err ∧ w.heap.size ≤ an ∧ KI G w' (writeS G.faults k false bs).2 rv v1' v2 ∧ (v1'.ownBlock = v1.ownBlock ∨ ∃ g, v1'.ownBlock = some g ∧ w.heap.size ≤ g) ∧ Turn (G.kn :: G.s1 :: v1.ownBlock.toList) w w' := by
  have ht := twrite_k1 (w := w.drew) (h.keep (S := []) (Turn.refl [] w).drew (by simp)) bv bs hbv h0 hL hO hbk
  obtain ⟨xb, cb, rfl⟩ := hbv.shape
  generalize writeS G.faults k false bs = A at ht ⊢
  clear h hbv
  go_enter Tryz.func266, Tryz.ntmps266
  go_wp2_with fail
  go_region_with (go_at_call 267; refine ht.mono ?_; rintro e w2 ⟨v', rfl, hK, hv, hT⟩)
  all_goals
    go_wp2
    go_ret
    have hTa : Turn [] w2 (w2.alloc _) := Turn.alloc w2 (.cells #[.int .i64 A.1.num, .int .i64 0, .slice none 0 0, .slice none 0 0, .int .i64 0, .bool false, .int .i64 0, .int .i64 0, .int .i64 0, .int .i64 0, .int .i64 A.1.err] 225)
    exact ⟨w2.heap.size, v', rfl, al_new _ _ rfl, hT.size, hK.keep hTa (by simp), hv, Turn.trans ⟨hT.os, hT.tape, hT.output, hT.size, hT.block⟩ (hTa.mono (by simp))⟩

set_option maxRecDepth 100000 in
set_option maxHeartbeats 2000000 in
/-- What a Write does with a step. -/
theorem write1_k2 {G : Gh} {w : World} {k : KC} {rv v1 v2 : Value} {a b c : Nat} (h : KI G w k rv v1 v2) (bv : Value) (bs : List UInt8) (hbv : ByAt w bv bs) (h0 : bs ≠ []) (hL : bs.length ≤ 1048576) (hO : k.err.length ≤ 549755813888) (hbk : ∀ b off n c, bv = .slice (some ⟨b, off, none⟩) n c → b ≠ G.kn) (hp : w.cell? ⟨G.p, 1, none⟩ = some (ptr G.tb))
    (ha : w.cell? ⟨a, 0, none⟩ = some (ptr G.p)) (hb : w.cell? ⟨b, 0, none⟩ = some (.int .i64 2)) (hc : w.cell? ⟨c, 0, none⟩ = some bv) :
    Calls Tryz.prog 266 #[ptr a, ptr b, ptr c] w fun e w' => ∃ an v2', e = .returned (ptr an) ∧ AnAt w' an (writeS G.faults k true bs).1.num (.slice none 0 0) (writeS G.faults k true bs).1.err ∧ w.heap.size ≤ an ∧ KI G w' (writeS G.faults k true bs).2 rv v1 v2' ∧ (v2'.ownBlock = v2.ownBlock ∨ ∃ g, v2'.ownBlock = some g ∧ w.heap.size ≤ g) ∧ Turn (G.kn :: G.s2 :: v2.ownBlock.toList) w w' := by
  have ht := twrite_k2 (w := w.drew) (h.keep (S := []) (Turn.refl [] w).drew (by simp)) bv bs hbv h0 hL hO hbk
  obtain ⟨xb, cb, rfl⟩ := hbv.shape
  generalize writeS G.faults k true bs = A at ht ⊢
  clear h hbv
  go_enter Tryz.func266, Tryz.ntmps266
  go_wp2_with fail
  go_region_with (go_at_call 267; refine ht.mono ?_; rintro e w2 ⟨v', rfl, hK, hv, hT⟩)
  all_goals
    go_wp2
    go_ret
    have hTa : Turn [] w2 (w2.alloc _) := Turn.alloc w2 (.cells #[.int .i64 A.1.num, .int .i64 0, .slice none 0 0, .slice none 0 0, .int .i64 0, .bool false, .int .i64 0, .int .i64 0, .int .i64 0, .int .i64 0, .int .i64 A.1.err] 225)
    exact ⟨w2.heap.size, v', rfl, al_new _ _ rfl, hT.size, hK.keep hTa (by simp), hv, Turn.trans ⟨hT.os, hT.tape, hT.output, hT.size, hT.block⟩ (hTa.mono (by simp))⟩
end Go.Proofs.YtfkoehfkiommpaaGreatDoor

namespace Go.Proofs.YtfkoehfkiommpaaGreatDoor
open Go.RowKit Go.Shelf Go.Maps

theorem bclone_by (v : Value) (d : List UInt8) (w : World) (hl : d.length ≤ 1048576) (h : ByAt w v d) :
    Calls Tryz.prog 107 #[v] w fun e w' => ∃ v', e = .returned v' ∧ w'.ownsRow w.heap.size 5 1 v' d.length (u8s d) ∧ Below w.heap.size w w' := by
  rcases h with ⟨rfl, rfl⟩ | ⟨b, off, cap, rfl, _, _, hc⟩
  · refine (Tryz.bytes_Clone_nil 0 0 w).mono ?_
    rintro e w' ⟨rfl, rfl⟩
    exact ⟨_, rfl, by simpa [u8s] using World.ownsRow_nil _ _ _ _, Below.refl _ _⟩
  · exact bclone_c b off d.length cap d w rfl (by omega) hc

section
variable {w : World} {p kn tb kin : Nat} {args env box : Value} {cwd : ByteArray} {l1 l2 l3 held peak : Int} {isChild : Bool} {m : Nat} {main next : Value} {steps status : Int} {once : Bool}
set_option maxRecDepth 100000 in
set_option maxHeartbeats 2000000 in
theorem pread_told {g n c t an : Nat} {num err fd most : Int} {av : Value} {d : List UInt8} (hp : PrAt w p kn tb args env cwd l1 l2 l3 held peak box kin isChild (ptr m)) (h : McAt w m p main (.slice (some ⟨g, 0, none⟩) n c) t next once steps false status) (ht : t < n) (hn : n ≤ 1048576) (hg : w.cell? ⟨g, t, none⟩ = some (ptr an)) (hne : g ≠ m)
    (ha : AnAt w an num av err) (hb : ByAt w av d) (hl : d.length ≤ 1048576) (hbm : ∀ b off n c, av = .slice (some ⟨b, off, none⟩) n c → b ≠ m) :
    Calls Tryz.prog 262 #[ptr p, .int .i64 fd, .int .i64 most] w fun e w' => ∃ bv, e = .returned (.tuple #[bv, .int .i64 err]) ∧ w'.ownsRow w.heap.size 5 1 bv d.length (u8s d) ∧ McAt w' m p main (.slice (some ⟨g, 0, none⟩) n c) (t + 1) next once steps false status ∧ Turn [m] w w' := by
  have hT0 : Turn [] w (((w.alloc (.cells #[ptr p] 115)).alloc (.cells #[.int .i64 fd] 3)).alloc (.cells #[.int .i64 most] 3)) := ((Turn.alloc w _).trans (Turn.alloc _ _)).trans (Turn.alloc _ _)
  have hr := pretold_some (hT0.ob hp (by simp)) (hT0.ob h (by simp)) ht hn (hT0.cell hg (by simp)) hne
  have ham : an ≠ m := h_ne ha h (by decide)
  have ha0 := hT0.ob ha (by simp)
  have hb0 := hb.turn hT0 (by simp)
  have q1 := mc_eq
  obtain ⟨xa, ca, rfl⟩ := hb.shape
  have HB := Lib.hid hb0
  have HA := Lib.hid ha0
  have HM := Lib.hid hbm
  clear h hp hg ha hb ha0 hb0 hbm
  go_enter Tryz.func262, Tryz.ntmps262
  go_wp2_with (go_at_call 264; refine hr.mono ?_; rintro e w' ⟨rfl, hm2, hT2⟩)
  have ha2 := hT2.ob HA.out (by simpa using ham)
  have hb2 := HB.out.turn hT2 (fun b off n c e => by simpa using HM.out b off n c e)
  have d2 := h_cell ha2 2 rfl
  have d9 := h_cell ha2 10 rfl
  have hcl := bclone_by _ d w'.drew hl (hb2.turn (Turn.refl [] w').drew (by simp))
  have HM2 := Lib.hid hm2
  have HA2 := Lib.hid ha2
  have HT2 := Lib.hid (And.intro hT0 hT2)
  clear hm2 ha2 hb2 hT2 hT0 HA HB
  go_region_with (go_at_call 107; refine hcl.mono ?_; rintro e w3 ⟨bv, rfl, ho, hB⟩; have hB' : Below w'.heap.size w' w3 := ⟨hB.os, hB.tape, hB.output, hB.size, hB.block⟩; have e9 := (Turn.below (S := []) hB').cell d9 (by simp); obtain ⟨xb, cb, rfl⟩ := own_shape ho)
  all_goals
    try simp only [Act.put, List.getElem_toArray, List.getElem_cons_succ, List.getElem_cons_zero, List.setIfInBounds_toArray, List.set_cons_succ, List.set_cons_zero]
    go_wp2
    go_ret2
    have hT3 : Turn [] w' w3 := Turn.below hB'
    exact ⟨_, rfl, own_less0 ho (Nat.le_trans HT2.out.1.size HT2.out.2.size), hT3.ob HM2.out (by simp), ((HT2.out.1.mono (by simp)).trans HT2.out.2).trans (hT3.mono (by simp))⟩
end
end Go.Proofs.YtfkoehfkiommpaaGreatDoor

namespace Go.Proofs.YtfkoehfkiommpaaGreatDoor
open Go.RowKit Go.Shelf Go.Maps

def stats (G : Gh) : List Nat := [G.p, G.m, G.kn, G.tb, G.so, G.s1, G.s2, G.th, G.fb, G.rb, G.pg, G.an, G.ab]
/-- The process; 'fresh': main has not been told the answer of its first call yet, this time. -/
structure PB (G : Gh) (w : World) (fresh : Bool) (k : KC) (held peak steps : Int) (rv v1 v2 : Value) : Prop where
  pr : PrAt w G.p G.kn G.tb G.args G.env G.cwd G.l1 G.l2 G.l3 held peak G.box G.kin G.isChild (ptr G.m)
  mc : McAt w G.m G.p G.main (.slice (some ⟨G.pg, 0, none⟩) 1 G.pc) (if fresh then 0 else 1) .nilFunc true steps false 0
  past : w.ownsRow 0 186 1 (.slice (some ⟨G.pg, 0, none⟩) 1 G.pc) 1 [ptr G.an]
  an : AnAt w G.an G.ans.num G.ansv G.ans.err
  anb : ByAt w G.ansv G.ans.bytes
  anl : G.ans.bytes.length ≤ 1048576
  abk : ∀ b off n c, G.ansv = .slice (some ⟨b, off, none⟩) n c → b = G.ab
  act : ∃ ka, KI G w ka rv v1 v2 ∧ (fresh = true → execS G.faults k G.first = (G.ans, ka)) ∧ (fresh = false → ka = k)
  base : G.base ≤ w.heap.size
  stat : ∀ b ∈ stats G, b < G.base
  nab : v1.ownBlock ≠ some G.ab ∧ v2.ownBlock ≠ some G.ab
  fm : G.fb ≠ G.m ∧ G.rb ≠ G.m ∧ G.fb ≠ G.p ∧ G.rb ≠ G.p ∧ G.ab ≠ G.m ∧ G.ab ≠ G.p ∧ G.ab ≠ G.kn ∧ G.ab ≠ G.so ∧ G.ab ≠ G.s1 ∧ G.ab ≠ G.s2
/-- What calls may turn. -/
def privL (G : Gh) (v1 v2 : Value) : List Nat := G.p :: G.m :: G.kn :: G.so :: G.s1 :: G.s2 :: (v1.ownBlock.toList ++ v2.ownBlock.toList)
theorem mem_privL {G : Gh} {v1 v2 : Value} {b : Nat} : b ∈ privL G v1 v2 ↔ b = G.p ∨ b = G.m ∨ b = G.kn ∨ b = G.so ∨ b = G.s1 ∨ b = G.s2 ∨ v1.ownBlock = some b ∨ v2.ownBlock = some b := by
  simp [privL]

section
variable {G : Gh} {w : World} {fresh : Bool} {k : KC} {held peak steps : Int} {rv v1 v2 : Value}
theorem PB.lts (h : PB G w fresh k held peak steps rv v1 v2) : G.p < G.base ∧ G.m < G.base ∧ G.kn < G.base ∧ G.tb < G.base ∧ G.so < G.base ∧ G.s1 < G.base ∧ G.s2 < G.base ∧ G.th < G.base ∧ G.fb < G.base ∧ G.rb < G.base ∧ G.pg < G.base ∧ G.an < G.base ∧ G.ab < G.base := by
  have := h.stat
  simp only [stats, List.forall_mem_cons] at this
  obtain ⟨a1, a2, a3, a4, a5, a6, a7, a8, a9, b1, b2, b3, b4, _⟩ := this
  exact ⟨a1, a2, a3, a4, a5, a6, a7, a8, a9, b1, b2, b3, b4⟩
/-- The process stands where only others' blocks are turned. -/
theorem PB.keep (h : PB G w fresh k held peak steps rv v1 v2) {S : List Nat} {w' : World} (hT : Turn S w w') (hS : ∀ b ∈ S, G.base ≤ b ∧ v1.ownBlock ≠ some b ∧ v2.ownBlock ≠ some b) : PB G w' fresh k held peak steps rv v1 v2 := by
  obtain ⟨a1, a2, a3, a4, a5, a6, a7, a8, a9, b1, b2, b3, b4⟩ := h.lts
  have hn : ∀ x, x < G.base → x ∉ S := fun x hx hm => by have := (hS x hm).1; omega
  obtain ⟨ka, hk, h1, h2⟩ := h.act
  have hpg : ∀ g, (Value.slice (some ⟨G.pg, 0, none⟩) 1 G.pc).ownBlock = some g → g ∉ S := fun g hg => by
    have e : G.pg = g := by simpa [Value.ownBlock] using hg
    exact hn g (by omega)
  exact { pr := hT.ob h.pr (hn _ a1), mc := hT.ob h.mc (hn _ a2), past := own_turn h.past hT hpg, an := hT.ob h.an (hn _ b3), anb := h.anb.turn hT (fun b off n c e => hn b (by rw [h.abk b off n c e]; exact b4)), anl := h.anl, abk := h.abk, act := ⟨ka, hk.keep hT (fun b hb => ⟨fun e => hn _ a3 (e ▸ hb), fun e => hn _ a5 (e ▸ hb), fun e => hn _ a6 (e ▸ hb), fun e => hn _ a7 (e ▸ hb), fun e => hn _ a4 (e ▸ hb), fun e => hn _ a9 (e ▸ hb), fun e => hn _ b1 (e ▸ hb), (hS b hb).2.1, (hS b hb).2.2⟩), h1, h2⟩, base := Nat.le_trans h.base hT.size, stat := h.stat, nab := h.nab, fm := h.fm }
theorem PB.al (h : PB G w fresh k held peak steps rv v1 v2) {w' : World} (hB : Below w.heap.size w w') : PB G w' fresh k held peak steps rv v1 v2 := h.keep (S := []) (Turn.below hB) (by simp)
theorem PB.nem (h : PB G w fresh k held peak steps rv v1 v2) : G.m ≠ G.p ∧ G.m ≠ G.kn ∧ G.m ≠ G.tb ∧ G.m ≠ G.so ∧ G.m ≠ G.s1 ∧ G.m ≠ G.s2 ∧ v1.ownBlock ≠ some G.m ∧ v2.ownBlock ≠ some G.m ∧ G.pg ≠ G.m ∧ G.an ≠ G.m ∧ G.p ≠ G.kn ∧ G.p ≠ G.so ∧ G.p ≠ G.s1 ∧ G.p ≠ G.s2 ∧ v1.ownBlock ≠ some G.p ∧ v2.ownBlock ≠ some G.p := by
  obtain ⟨ka, hk, _⟩ := h.act
  exact ⟨h_ne h.mc h.pr (by decide), h_ne h.mc hk.kn (by decide), h_ne h.mc hk.tb (by decide), h_ne h.mc hk.so (by decide), h_ne h.mc hk.k1 (by decide), h_ne h.mc hk.k2 (by decide), row_ne hk.o1 h.mc (by decide), row_ne hk.o2 h.mc (by decide), fun e => row_ne h.past h.mc (by decide) (by rw [← e]; rfl), h_ne h.an h.mc (by decide), h_ne h.pr hk.kn (by decide), h_ne h.pr hk.so (by decide), h_ne h.pr hk.k1 (by decide), h_ne h.pr hk.k2 (by decide), row_ne hk.o1 h.pr (by decide), row_ne hk.o2 h.pr (by decide)⟩
theorem PB.tbc (h : PB G w fresh k held peak steps rv v1 v2) : w.cell? ⟨G.p, 1, none⟩ = some (ptr G.tb) := h_cell h.pr 1 rfl
theorem PB.pcell (h : PB G w fresh k held peak steps rv v1 v2) : w.cell? ⟨G.pg, 0, none⟩ = some (ptr G.an) := by
  rcases h.past.2 with ⟨e, _⟩ | ⟨g, cap, cur, e, _, hg, _, _, hs, ht⟩
  · cases e
  · cases e
    have : cur.toList[0]? = some (ptr G.an) := by
      have h2 : (cur.toList.take (1 * 1))[0]? = some (ptr G.an) := by rw [ht]; rfl
      simpa using h2
    simp [World.cell?, hg]
    simpa using this
/-- Behind what a call has turned the process stands, its first call told. -/
theorem PB.next (h : PB G w fresh k held peak steps rv v1 v2) {S : List Nat} {w' : World} {k' : KC} {rv' v1' v2' : Value} {steps' : Int} (hT : Turn S w w') (hS : ∀ b ∈ S, b = G.m ∨ b = G.kn ∨ b = G.so ∨ b = G.s1 ∨ b = G.s2 ∨ v1.ownBlock = some b ∨ v2.ownBlock = some b)
    (hm : McAt w' G.m G.p G.main (.slice (some ⟨G.pg, 0, none⟩) 1 G.pc) 1 .nilFunc true steps' false 0) (hk : KI G w' k' rv' v1' v2') (h1 : ∀ b, v1'.ownBlock = some b → v1.ownBlock = some b ∨ w.heap.size ≤ b) (h2 : ∀ b, v2'.ownBlock = some b → v2.ownBlock = some b ∨ w.heap.size ≤ b) : PB G w' false k' held peak steps' rv' v1' v2' := by
  obtain ⟨a1, a2, a3, a4, a5, a6, a7, a8, a9, b1, b2, b3, b4⟩ := h.lts
  obtain ⟨n1, n2, n3, n4, n5, n6, n7, n8, n9, n10, n11, n12, n13, n14, n15, n16⟩ := h.nem
  obtain ⟨ka, hka, _⟩ := h.act
  have hb := h.base
  have hfm := h.fm
  have hnab := h.nab
  have hp : G.p ∉ S := fun e => by rcases hS _ e with e | e | e | e | e | e | e <;> first | exact absurd e.symm n1 | exact n11 e | exact n12 e | exact n13 e | exact n14 e | exact n15 e | exact n16 e
  have han : G.an ∉ S := fun e => by
    rcases hS _ e with e | e | e | e | e | e | e
    · exact n10 e
    · exact h_ne h.an hka.kn (by decide) e
    · exact h_ne h.an hka.so (by decide) e
    · exact h_ne h.an hka.k1 (by decide) e
    · exact h_ne h.an hka.k2 (by decide) e
    · exact row_ne hka.o1 h.an (by decide) e
    · exact row_ne hka.o2 h.an (by decide) e
  have hpn : ∀ {b T : Nat} {cs : Array Value} {fz : Nat × Nat}, w.heap[b]? = some (.cells cs T fz) → T ≠ 186 → G.pg ≠ b := fun hx ht e => row_ne h.past hx ht (by rw [← e]; rfl)
  have hpg : G.pg ∉ S := fun e => by
    rcases hS _ e with e | e | e | e | e | e | e
    · exact n9 e
    · exact hpn hka.kn (by decide) e
    · exact hpn hka.so (by decide) e
    · exact hpn hka.k1 (by decide) e
    · exact hpn hka.k2 (by decide) e
    · rcases hka.o1.2 with ⟨e1, _⟩ | ⟨g, cap, cur, e1, _, hg, _⟩
      · rw [e1] at e; cases e
      · have e2 : g = G.pg := by rw [e1] at e; simpa [Value.ownBlock] using e
        exact hpn hg (by decide) e2.symm
    · rcases hka.o2.2 with ⟨e1, _⟩ | ⟨g, cap, cur, e1, _, hg, _⟩
      · rw [e1] at e; cases e
      · have e2 : g = G.pg := by rw [e1] at e; simpa [Value.ownBlock] using e
        exact hpn hg (by decide) e2.symm
  have hab : G.ab ∉ S := fun e => by rcases hS _ e with e | e | e | e | e | e | e <;> first | exact hfm.2.2.2.2.1 e | exact hfm.2.2.2.2.2.2.1 e | exact hfm.2.2.2.2.2.2.2.1 e | exact hfm.2.2.2.2.2.2.2.2.1 e | exact hfm.2.2.2.2.2.2.2.2.2 e | exact hnab.1 e | exact hnab.2 e
  exact { pr := hT.ob h.pr hp, mc := hm, past := own_turn h.past hT (fun g hg e => hpg ((show G.pg = g by simpa [Value.ownBlock] using hg) ▸ e)), an := hT.ob h.an han, anb := h.anb.turn hT (fun b off n c e hm => hab ((h.abk b off n c e) ▸ hm)), anl := h.anl, abk := h.abk, act := ⟨k', hk, fun e => (by cases e), fun _ => rfl⟩, base := Nat.le_trans h.base hT.size, stat := h.stat, nab := ⟨fun e => (h1 _ e).elim hnab.1 (fun e => by omega), fun e => (h2 _ e).elim hnab.2 (fun e => by omega)⟩, fm := h.fm }
end
end Go.Proofs.YtfkoehfkiommpaaGreatDoor

namespace Go.Proofs.YtfkoehfkiommpaaGreatDoor
open Go.RowKit Go.Shelf Go.Maps

theorem readS_err (l : List (Int × Int)) (k : KC) (m : Nat) : (readS l k m).1.err = 0 ∨ (readS l k m).1.err = 9 := by
  unfold readS
  split
  · exact .inl rfl
  · exact befS_err l k.used m
theorem writeS_err (l : List (Int × Int)) (k : KC) (e : Bool) (b : List UInt8) : (writeS l k e b).1.err = 0 ∨ (writeS l k e b).1.err = 9 := by
  unfold writeS
  split
  · exact .inl rfl
  · exact befS_err l k.used b.length
theorem readS_le (l : List (Int × Int)) (k : KC) (m : Nat) : (readS l k m).1.bytes.length ≤ k.rest.length := by
  unfold readS
  split
  · simp; omega
  · simp

theorem cf_read (z : Array Value) (u : World) : (callFunc 285 z).run Tryz.prog u = .ok (.enter 285 z) u := by kernel_rfl
theorem cf_write (z : Array Value) (u : World) : (callFunc 266 z).run Tryz.prog u = .ok (.enter 266 z) u := by kernel_rfl

section
variable {G : Gh} {w : World} {k : KC} {held peak steps : Int} {rv v1 v2 : Value}
/-- What is known where a Read has been done at once. -/
structure RdQ (G : Gh) (w : World) (k : KC) (v1 v2 : Value) (most : Nat) (a : Nat) (u : World) (bv rv' : Value) : Prop where
  an : AnAt u a 0 bv (readS G.faults k most).1.err
  row : u.ownsRow w.heap.size 5 1 bv (readS G.faults k most).1.bytes.length (u8s (readS G.faults k most).1.bytes)
  ki : KI G u (readS G.faults k most).2 rv' v1 v2
  turn : Turn [G.m, G.kn, G.so] w u
  ge : w.heap.size ≤ a
abbrev box3 (w : World) (G : Gh) (a b : Int) : World := ((w.alloc (.cells #[ptr G.p] 115)).alloc (.cells #[.int .i64 a] 3)).alloc (.cells #[.int .i64 b] 3)
theorem box3_turn (w : World) (G : Gh) (a b : Int) : Turn [] w (box3 w G a b) := ((Turn.alloc w _).trans (Turn.alloc _ _)).trans (Turn.alloc _ _)
theorem box3_cells (w : World) (G : Gh) (a b : Int) : (box3 w G a b).cell? ⟨w.heap.size, 0, none⟩ = some (ptr G.p) ∧ (box3 w G a b).cell? ⟨w.heap.size + 1, 0, none⟩ = some (.int .i64 a) ∧ (box3 w G a b).cell? ⟨w.heap.size + 1 + 1, 0, none⟩ = some (.int .i64 b) := by
  have e1 : (w.alloc (.cells #[ptr G.p] 115)).heap.size = w.heap.size + 1 := by simp
  have e2 : ((w.alloc (.cells #[ptr G.p] 115)).alloc (.cells #[.int .i64 a] 3)).heap.size = w.heap.size + 1 + 1 := by simp
  refine ⟨al_cell _ (al_cell _ (World.cell?_alloc_new w #[ptr G.p] 115 0)), al_cell _ ?_, ?_⟩
  · have := World.cell?_alloc_new (w.alloc (.cells #[ptr G.p] 115)) #[.int .i64 a] 3 0
    rw [e1] at this; exact this
  · have := World.cell?_alloc_new ((w.alloc (.cells #[ptr G.p] 115)).alloc (.cells #[.int .i64 a] 3)) #[.int .i64 b] 3 0
    rw [e2] at this; exact this
theorem ask_read (h : PB G w false k held peak steps rv v1 v2) (most : Nat) (hm : 1 ≤ most) (hL : k.rest.length ≤ 1048576) (h0 : 0 ≤ steps) (h1 : steps < 4611686018427387904) (q : Nat) :
    Calls Tryz.prog 265 #[ptr G.p, .func (.func 285) #[] #[ptr w.heap.size, ptr (w.heap.size + 1), ptr (w.heap.size + 1 + 1)]] ((box3 w G 0 most).drewN q) fun e w' => ∃ an q' u', e = .returned (ptr an) ∧ (∃ bv rv', RdQ G w k v1 v2 most an u' bv rv') ∧ McAt u' G.m G.p G.main (.slice (some ⟨G.pg, 0, none⟩) 1 G.pc) 1 .nilFunc true (steps + 1) false 0 ∧ w' = u'.drewN q' := by
  have hX := (box3_turn w G 0 most).drewN q
  obtain ⟨x1, x2, x3⟩ := box3_cells w G 0 most
  obtain ⟨n1, n2, n3, n4, n5, n6, n7, n8, n9, n10, n11, n12, n13, n14, n15, n16⟩ := h.nem
  have hfm := h.fm
  have hlt := h.lts
  have hbs := h.base
  obtain ⟨ka, hk, _, he⟩ := h.act
  obtain rfl := he rfl
  refine pask_once (hX.ob h.pr (by simp)) (hX.ob h.mc (by simp)) (by decide) h0 h1 (cf_read _) ?_
  intro u hu hTu
  have hTw : Turn [G.m] w u := (hX.mono (by simp)).trans hTu
  have hku : KI G u ka rv v1 v2 := hk.keep hTw (by
    intro b hb
    have e : b = G.m := by simpa using hb
    subst e
    exact ⟨n2, n4, n5, n6, n3, hfm.1.symm, hfm.2.1.symm, n7, n8⟩)
  have y1 := hTu.cell (show ((box3 w G 0 most).drewN q).cell? _ = _ from x1) (by simp; omega)
  have y2 := hTu.cell (show ((box3 w G 0 most).drewN q).cell? _ = _ from x2) (by simp; omega)
  have y3 := hTu.cell (show ((box3 w G 0 most).drewN q).cell? _ = _ from x3) (by simp; omega)
  have hsz := hTw.size
  refine (read1_k hku most hm hL (hTw.cell h.tbc (by simpa using n1.symm)) y1 y2 y3).mono ?_
  rintro e u' ⟨an, bv, rv', rfl, ha, hge, ho, hki, hT⟩
  have herr := readS_err G.faults ka most
  exact ⟨an, _, rfl, h_cell ha 10 rfl, by omega, by omega, hT.ob hu (by simp; exact ⟨n2, n4⟩), bv, rv', ha, own_less0 ho hsz, hki, (hTw.mono (by simp)).trans (hT.mono (by simp)), Nat.le_trans hsz hge⟩

set_option maxRecDepth 100000 in
set_option maxHeartbeats 4000000 in
theorem pread_once (h : PB G w false k held peak steps rv v1 v2) (most : Nat) (hm : 1 ≤ most) (hL : k.rest.length ≤ 1048576) (h0 : 0 ≤ steps) (h1 : steps < 4611686018427387904) :
    Calls Tryz.prog 262 #[ptr G.p, .int .i64 0, .int .i64 most] w fun e w' => ∃ bv rv', e = .returned (.tuple #[bv, .int .i64 (readS G.faults k most).1.err]) ∧ w'.ownsRow w.heap.size 5 1 bv (readS G.faults k most).1.bytes.length (u8s (readS G.faults k most).1.bytes) ∧ PB G w' false (readS G.faults k most).2 held peak (steps + 1) rv' v1 v2 ∧ Turn [G.m, G.kn, G.so] w w' := by
  have hmf : ∀ (fn : Fn) (first cap : Array Value) (w : World), (Instr.makeFunc fn first cap).run Tryz.prog w = .ok (.func fn first cap) w := fun _ _ _ _ => rfl
  have hX := box3_turn w G 0 most
  obtain ⟨x1, _, _⟩ := box3_cells w G 0 most
  have hr := pretold_none (hX.ob h.pr (by simp)) (hX.ob h.mc (by simp)) (by decide)
  have ha := ask_read h most hm hL h0 h1
  have q1 := an_nil
  have HH := Lib.hid h
  have hle := Nat.le_trans (readS_le G.faults k most) hL
  clear h
  go_enter Tryz.func262, Tryz.ntmps262
  go_wp2_with (first
    | (go_at_call 264; refine hr.mono ?_; rintro e w' ⟨rfl, q, hw'⟩; rw [hw']; clear hw')
    | (go_at_call 265; refine (ha q).mono ?_; rintro e w' ⟨an, q', u, rfl, ⟨bv, rv', hQ⟩, hM, hw'⟩; rw [hw']; clear hw'))
  obtain ⟨hA, ho, hki, hTu, hge⟩ := hQ
  have hA' : AnAt (u.drewN q') an 0 bv (readS G.faults k most).1.err := hA
  have ho' : (u.drewN q').ownsRow w.heap.size 5 1 bv (readS G.faults k most).1.bytes.length (u8s (readS G.faults k most).1.bytes) := ho
  have hki' : KI G (u.drewN q') (readS G.faults k most).2 rv' v1 v2 := hki.keep (S := []) ((Turn.refl [] u).drewN q') (by simp)
  have hM' : McAt (u.drewN q') G.m G.p G.main (.slice (some ⟨G.pg, 0, none⟩) 1 G.pc) 1 .nilFunc true (steps + 1) false 0 := hM
  have hTu' : Turn [G.m, G.kn, G.so] w (u.drewN q') := hTu.drewN q'
  generalize u.drewN q' = U at hA' ho' hki' hM' hTu' ⊢
  obtain ⟨xa, ca, rfl⟩ := own_shape ho'
  have d2 := h_cell hA' 2 rfl
  have d9 := h_cell hA' 10 rfl
  have hcl := bclone_by _ _ U.drew hle (by_own (show U.drew.ownsRow _ _ _ _ _ _ from ho'))
  have HP := Lib.hid (And.intro hki' (And.intro hM' hTu'))
  clear hA ho hki hM hTu hge hA' ho' hki' hM' hTu' ha hr
  generalize hAe : readS G.faults k most = A at *
  have HAe := Lib.hid hAe
  clear hAe
  go_region_with (go_at_call 107; refine hcl.mono ?_; rintro e w3 ⟨bv, rfl, ho, hB⟩; have hB' : Below U.heap.size U w3 := ⟨hB.os, hB.tape, hB.output, hB.size, hB.block⟩; have e9 := (Turn.below (S := []) hB').cell d9 (by simp); obtain ⟨xb, cb, rfl⟩ := own_shape ho)
  all_goals
    try simp only [Act.put, List.getElem_toArray, List.getElem_cons_succ, List.getElem_cons_zero, List.setIfInBounds_toArray, List.set_cons_succ, List.set_cons_zero]
    go_wp2
    go_ret2
    have eA := HAe.out
    subst eA
    obtain ⟨hki, hM, hTu⟩ := HP.out
    have hT3 : Turn [] U w3 := Turn.below hB'
    have hT4 : Turn [G.m, G.kn, G.so] w w3 := hTu.trans (hT3.mono (by simp))
    exact ⟨_, rv', rfl, own_less0 ho hTu.size, HH.out.next hT4 (fun b hb => by simp at hb; rcases hb with h | h | h <;> simp [h]) (hT3.ob hM (by simp)) (hki.keep hT3 (by simp)) (fun b h => .inl h) (fun b h => .inl h), hT4⟩

/-- A Read of the descriptor 0. -/
theorem pread_B {fresh : Bool} (h : PB G w fresh k held peak steps rv v1 v2) (most : Nat) (hm : 1 ≤ most) (hL : k.rest.length ≤ 1048576) (hf : fresh = true → G.first = .read most) (h0 : 0 ≤ steps) (h1 : steps < 4611686018427387904) :
    Calls Tryz.prog 262 #[ptr G.p, .int .i64 0, .int .i64 most] w fun e w' => ∃ bv rv', e = .returned (.tuple #[bv, .int .i64 (readS G.faults k most).1.err]) ∧ w'.ownsRow w.heap.size 5 1 bv (readS G.faults k most).1.bytes.length (u8s (readS G.faults k most).1.bytes) ∧ PB G w' false (readS G.faults k most).2 held peak (steps + if fresh then 0 else 1) rv' v1 v2 ∧ Turn [G.m, G.kn, G.so] w w' := by
  cases fresh with
  | false => exact pread_once h most hm hL h0 h1
  | true =>
    obtain ⟨ka, hk, he, _⟩ := h.act
    have he := he rfl
    rw [hf rfl, execS_read] at he
    rw [he]
    have hnem := h.nem
    have hfm := h.fm
    refine (pread_told (fd := 0) (most := most) h.pr h.mc (by decide) (by decide) h.pcell hnem.2.2.2.2.2.2.2.2.1 h.an h.anb h.anl (fun b off n c e => by rw [h.abk b off n c e]; exact hfm.2.2.2.2.1)).mono ?_
    rintro e w' ⟨bv, rfl, ho, hM, hT⟩
    have hkw : KI G w' ka rv v1 v2 := hk.keep hT (by
      intro b hb
      have e : b = G.m := by simpa using hb
      subst e
      exact ⟨hnem.2.1, hnem.2.2.2.1, hnem.2.2.2.2.1, hnem.2.2.2.2.2.1, hnem.2.2.1, hfm.1.symm, hfm.2.1.symm, hnem.2.2.2.2.2.2.1, hnem.2.2.2.2.2.2.2.1⟩)
    refine ⟨bv, rv, rfl, ho, ?_, hT.mono (by simp)⟩
    have := h.next hT (fun b hb => by simp at hb; simp [hb]) (by simpa using hM) hkw (fun b h => .inl h) (fun b h => .inl h)
    simpa using this
end
end Go.Proofs.YtfkoehfkiommpaaGreatDoor
