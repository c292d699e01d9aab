/- Parse: a panic is taken. -/
import Derived.RegionDies
import Derived.Defers
import Derived.Recover
import Derived.Test.YtlekfdkahlobiaaGreatDoorHRead
namespace Go.Proofs.YtlekfdkahlobiaaGreatDoor.Re
open Go.Proofs.YtlekfdkahlobiaaGreatDoor.Tr
open Go.RowKit

/-- What is deferred, where the reader gave up. -/
theorem catch_gave {w : World} {br be : Nat} {vr ve : Value} {u : TypeId} {pv : Value} {older : List PanicEntry} (hne : br ≠ be) (h1 : w.cell? ⟨br, 0, none⟩ = some vr) (h2 : w.cell? ⟨be, 0, none⟩ = some ve) (z1 : w.frozen? ⟨br, 0, none⟩ = false) (z2 : w.frozen? ⟨be, 0, none⟩ = false) :
    CallsD Tryz.prog 19 #[ptr br, ptr be] (.panicking ({ v := .iface u pv, recovered := false } :: older)) w fun e u' w' =>
      e = .returned (.tuple #[]) ∧ u' = .panicking ({ v := .iface u pv, recovered := true } :: older) ∧ w' = (w.setCell ⟨br, 0, none⟩ (.pointer none)).setCell ⟨be, 0, none⟩ (.int .i64 20) := by
  refine callsD_of_wpS Tryz.func19 rfl fun c₀ cs hu => ?_
  apply wpS_seq
  apply wpS_region
  simp [wpOpsS, go_sem, recoverD, hu, Tryz.ntmps19, Exit.thenS]
  refine wpS_cond (t := true) (by simp [Act.eval, Array.replicate]) ?_
  simp only [if_true]
  have h3 : (w.setCell ⟨br, 0, none⟩ (.pointer none)).cell? ⟨be, 0, none⟩ = some ve := (World.cell?_setCell_other _ _ _ _ (fun e => hne (congrArg Addr.block e))).trans h2
  apply wpS_region
  simp [wpOpsS, go_sem, h1, h3, z1, z2, bodyPostS, results, Tryz.results19]
theorem catch_none {w : World} {br be : Nat} :
    CallsD Tryz.prog 19 #[ptr br, ptr be] .returning w fun e u' w' => e = .returned (.tuple #[]) ∧ u' = .returning ∧ w' = w := by
  refine callsD_of_wpS Tryz.func19 rfl fun c₀ cs hu => ?_
  apply wpS_seq
  apply wpS_region
  simp [wpOpsS, go_sem, recoverD, hu, Tryz.ntmps19, Exit.thenS]
  refine wpS_cond (t := false) (by simp [Act.eval, Array.replicate]) ?_
  simp only [Bool.false_eq_true, if_false]
  refine wpS_of_wp (wp_skip ?_)
  cases c₀
  simp_all [bodyPostS, results, Tryz.results19]
theorem al_new2 (w : World) (o p : Obj) : ((w.alloc o).alloc p).heap[w.heap.size + 1]? = some p := by have := al_new (w.alloc o) p; rwa [al_size] at this
theorem al_old2 (w : World) (o p : Obj) : ((w.alloc o).alloc p).heap[w.heap.size]? = some o := (al_old _ _ (by rw [al_size]; omega)).trans (al_new _ _)
abbrev PW (w : World) : World := (w.alloc (.cells #[.pointer none] 23)).alloc (.cells #[.int .i64 0] 24)
theorem so_blk {w : World} {b : Nat} {o : Obj} (h : w.heap[b]? = some o) {c i : Nat} {v : Value} (hne : b ≠ c) : (w.setCell ⟨c, i, none⟩ v).heap[b]? = some o := by
  simp only [World.setCell, Array.getElem?_modify]
  rw [if_neg (by simpa using Ne.symm hne)]
  exact h
theorem pa_facts {w w1 : World} (hB : Below (PW w).heap.size (PW w) w1) (o : Obj) (v x : Value) :
    ((w1.alloc o).cell? ⟨w.heap.size, 0, none⟩ = some (.pointer none) ∧ (w1.alloc o).frozen? ⟨w.heap.size, 0, none⟩ = false ∧ ((w1.alloc o).setCell ⟨w.heap.size, 0, none⟩ v).cell? ⟨w.heap.size + 1, 0, none⟩ = some (.int .i64 0) ∧ (w1.alloc o).cell? ⟨w.heap.size + 1, 0, none⟩ = some (.int .i64 0)) ∧ (((w1.alloc o).setCell ⟨w.heap.size, 0, none⟩ v).frozen? ⟨w.heap.size + 1, 0, none⟩ = false ∧ (w1.alloc o).frozen? ⟨w.heap.size + 1, 0, none⟩ = false) ∧
    (((w1.alloc o).setCell ⟨w.heap.size, 0, none⟩ v).setCell ⟨w.heap.size + 1, 0, none⟩ x).cell? ⟨w.heap.size, 0, none⟩ = some v ∧ (((w1.alloc o).setCell ⟨w.heap.size, 0, none⟩ v).setCell ⟨w.heap.size + 1, 0, none⟩ x).cell? ⟨w.heap.size + 1, 0, none⟩ = some x ∧ Below w.heap.size w (((w1.alloc o).setCell ⟨w.heap.size, 0, none⟩ v).setCell ⟨w.heap.size + 1, 0, none⟩ x) ∧ (((w1.alloc o).setCell ⟨w.heap.size, 0, none⟩ v).setCell ⟨w.heap.size + 1, 0, none⟩ x).heap[w1.heap.size]? = some o ∧ NKeep w1 (((w1.alloc o).setCell ⟨w.heap.size, 0, none⟩ v).setCell ⟨w.heap.size + 1, 0, none⟩ x) := by
  have hsz := hB.size
  simp only [al_size] at hsz
  have hne : w.heap.size ≠ w.heap.size + 1 := by omega
  have HB0 : Below w.heap.size w (PW w) := ((Below.refl _ w).alloc (Nat.le_refl _) _).alloc (by simp) _
  have b0 : (w1.alloc o).heap[w.heap.size]? = some (.cells #[.pointer none] 23) := (al_old _ _ (by omega)).trans ((hB.block _ (by simp; omega)).trans (al_old2 _ _ _))
  have b1 : (w1.alloc o).heap[w.heap.size + 1]? = some (.cells #[.int .i64 0] 24) := (al_old _ _ (by omega)).trans ((hB.block _ (by simp)).trans (al_new2 _ _ _))
  have d0 := h_set b0 0 v
  have d1 := so_blk (i := 0) (v := v) b1 (Ne.symm hne)
  refine ⟨⟨h_cell b0 0 rfl, h_fz b0 0, h_cell d1 0 rfl, h_cell b1 0 rfl⟩, ⟨h_fz d1 0, h_fz b1 0⟩, (World.cell?_setCell_other _ _ _ _ (by simp)).trans (h_cell d0 0 rfl), h_cell (h_set d1 0 x) 0 rfl, ?_, so_blk (so_blk (al_new _ _) (by omega)) (by omega), ?_⟩
  · exact (((HB0.trans (hB.mono (by simp; omega))).alloc (by omega) _).setCell (p := ⟨w.heap.size, 0, none⟩) (Nat.le_refl _) _).setCell (p := ⟨w.heap.size + 1, 0, none⟩) (Nat.le_succ _) _
  · exact ((NKeep.of ((Below.refl _ w1).alloc (Nat.le_refl _) o)).trans (NKeep.bar (Bar.set _ _ _ _) b0 (by decide))).trans (NKeep.bar (Bar.set _ _ _ _) d1 (by decide))
set_option maxHeartbeats 2000000 in
set_option maxRecDepth 100000 in
theorem parse_none {w : World} {m : Int} (s : List UInt8) (ext fold : Bool) (hs : s.length ≤ 1048640) (hG : 3 < w.heap.size) (hm : w.cell? ⟨3, 0, none⟩ = some (.int .i64 m)) (hn : readS id ext fold s = none) : Calls Tryz.prog 7 #[.string (bs s), .bool ext, .bool fold] w (fun e w' => e = .returned (.tuple #[.pointer none, .int .i64 20]) ∧ Below w.heap.size w w') := by
  have hmf : ∀ (fn : Fn) (first cap : Array Value) (w : World), (Instr.makeFunc fn first cap).run Tryz.prog w = .ok (.func fn first cap) w := fun _ _ _ _ => rfl
  have HB0 : Below w.heap.size w (PW w) := ((Below.refl _ w).alloc (Nat.le_refl _) _).alloc (by simp) _
  have hr := read_c (w := PW w) (m := m) s ext fold hs (by have hG2 := Nat.lt_succ_of_lt (Nat.lt_succ_of_lt hG); rw [show (PW w).heap.size = w.heap.size + 2 by simp]; exact hG2) (cell_below HB0 hm)
  rw [hn] at hr
  go_enter_defers Tryz.func7, Tryz.ntmps7
  go_wp2_with fail
  refine hr.mono ?_
  rintro e w1 ⟨hB, he⟩
  have he : e = .panicked gaveUp := he
  rw [he]
  have b0 : w1.heap[w.heap.size]? = some (.cells #[.pointer none] 23) := (hB.block _ (by simp; omega)).trans (al_old2 _ _ _)
  have b1 : w1.heap[w.heap.size + 1]? = some (.cells #[.int .i64 0] 24) := (hB.block _ (by simp)).trans (al_new2 _ _ _)
  have hne : w.heap.size ≠ w.heap.size + 1 := by omega
  show Leaves _ _ _ _ _ _ _
  refine leaves_cons (f := 19) (args := #[ptr w.heap.size, ptr (w.heap.size + 1)]) (by simp) (by simp [go_sem]) ?_
  refine (catch_gave hne (h_cell b0 0 rfl) (h_cell b1 0 rfl) (h_fz b0 0) (h_fz b1 0)).mono ?_
  rintro e u' w'' ⟨rfl, rfl, hw⟩
  have hB2 : Below w.heap.size w w'' := by rw [hw]; exact ((HB0.trans (hB.mono (by simp; omega))).setCell (p := ⟨w.heap.size, 0, none⟩) (Nat.le_refl _) _).setCell (p := ⟨w.heap.size + 1, 0, none⟩) (Nat.le_succ _) _
  have c0 : w''.cell? ⟨w.heap.size, 0, none⟩ = some (.pointer none) := by rw [hw]; exact (World.cell?_setCell_other _ _ _ _ (by simp)).trans (h_cell (h_set b0 0 _) 0 rfl)
  have c1 : w''.cell? ⟨w.heap.size + 1, 0, none⟩ = some (.int .i64 20) := by rw [hw]; exact h_cell (h_set (so_blk b1 (Ne.symm hne)) 0 _) 0 rfl
  clear hw
  simp [Leaves, settle, results, Tryz.results7, go_sem, c0, c1]
  exact hB2
set_option maxHeartbeats 2000000 in
set_option maxRecDepth 100000 in
theorem parse_many {w : World} {m : Int} {x : Nd} (s : List UInt8) (ext fold : Bool) (hs : s.length ≤ 1048640) (hG : 3 < w.heap.size) (hm : w.cell? ⟨3, 0, none⟩ = some (.int .i64 m)) (hn : readS id ext fold s = some x) (hx : 10000 < x.size) : Calls Tryz.prog 7 #[.string (bs s), .bool ext, .bool fold] w (fun e w' => e = .returned (.tuple #[.pointer none, .int .i64 12]) ∧ Below w.heap.size w w') := by
  have hmf : ∀ (fn : Fn) (first cap : Array Value) (w : World), (Instr.makeFunc fn first cap).run Tryz.prog w = .ok (.func fn first cap) w := fun _ _ _ _ => rfl
  have HB0 : Below w.heap.size w (PW w) := ((Below.refl _ w).alloc (Nat.le_refl _) _).alloc (by simp) _
  have hr := read_c (w := PW w) (m := m) s ext fold hs (by have hG2 := Nat.lt_succ_of_lt (Nat.lt_succ_of_lt hG); rw [show (PW w).heap.size = w.heap.size + 2 by simp]; exact hG2) (cell_below HB0 hm)
  rw [hn] at hr
  have HX := Lib.hid hx
  clear hx hn hm hG
  go_enter_defers Tryz.func7, Tryz.ntmps7
  go_wp2_with fail
  refine hr.mono ?_
  rintro e w1 ⟨hB, he⟩
  have he : e = .returned (.tuple #[.agg #[.pointer none, .int .i64 0], .bool false]) := by
    have he : (if 10000 < x.size then e = .returned (.tuple #[.agg #[.pointer none, .int .i64 0], .bool false]) else _) := he
    rwa [if_pos HX.out] at he
  subst he
  obtain ⟨⟨c0, z0, c1, c1'⟩, ⟨z1, z1'⟩, HF⟩ := pa_facts hB (.cells #[.pointer none, .int .i64 0] 48) (.pointer none) (.int .i64 12)
  have HF := Lib.hid HF
  have HB := Lib.hid hB
  clear hB hr
  go_wp2_with fail
  show Leaves _ _ _ _ _ _ _
  refine leaves_cons (f := 19) (args := #[ptr w.heap.size, ptr (w.heap.size + 1)]) (by simp) (by simp [go_sem]) ?_
  refine catch_none.mono ?_
  rintro e u' w'' ⟨rfl, rfl, rfl⟩
  obtain ⟨f0, f1, f2, _, _⟩ := HF.out
  simp [Leaves, settle, results, Tryz.results7, go_sem, f0, f1]
  exact f2
/-- How an expression lies. -/
def ReP (w : World) (v : Value) (x : Nd) : Prop := ∃ b v0, v = ptr b ∧ ReB w b v0 (szI x) ∧ NodeP w v0 x
theorem ReP.keep {w w' : World} {v : Value} {x : Nd} (h : ReP w v x) (hb : Below w.heap.size w w') : ReP w' v x :=
  let ⟨b, v0, e, h1, h2⟩ := h
  ⟨b, v0, e, (hb.block b (h_lt h1)).trans h1, h2.keep (NKeep.of hb)⟩
set_option maxHeartbeats 2000000 in
set_option maxRecDepth 100000 in
theorem parse_ok {w : World} {m : Int} {x : Nd} (s : List UInt8) (ext fold : Bool) (hs : s.length ≤ 1048640) (hG : 3 < w.heap.size) (hm : w.cell? ⟨3, 0, none⟩ = some (.int .i64 m)) (hn : readS id ext fold s = some x) (hx : ¬ 10000 < x.size) : Calls Tryz.prog 7 #[.string (bs s), .bool ext, .bool fold] w (fun e w' => (∃ v, e = .returned (.tuple #[v, .int .i64 0]) ∧ isPtr w' v ∧ ReP w' v x) ∧ Below w.heap.size w w') := by
  have hmf : ∀ (fn : Fn) (first cap : Array Value) (w : World), (Instr.makeFunc fn first cap).run Tryz.prog w = .ok (.func fn first cap) w := fun _ _ _ _ => rfl
  have HB0 : Below w.heap.size w (PW w) := ((Below.refl _ w).alloc (Nat.le_refl _) _).alloc (by simp) _
  have hr := read_c (w := PW w) (m := m) s ext fold hs (by have hG2 := Nat.lt_succ_of_lt (Nat.lt_succ_of_lt hG); rw [show (PW w).heap.size = w.heap.size + 2 by simp]; exact hG2) (cell_below HB0 hm)
  rw [hn] at hr
  have HX := Lib.hid hx
  clear hx hn hm hG
  go_enter_defers Tryz.func7, Tryz.ntmps7
  go_wp2_with fail
  refine hr.mono ?_
  rintro e w1 ⟨hB, he⟩
  have he : ∃ v, e = .returned (.tuple #[reV v x, .bool true]) ∧ NodeP w1 v x := by
    have he : (if 10000 < x.size then e = .returned (.tuple #[.agg #[.pointer none, .int .i64 0], .bool false]) else ∃ v, e = .returned (.tuple #[reV v x, .bool true]) ∧ NodeP w1 v x) := he
    rwa [if_neg HX.out] at he
  obtain ⟨v, rfl, hv⟩ := he
  obtain ⟨⟨c0, z0, c1, c1'⟩, ⟨z1, z1'⟩, HF⟩ := pa_facts hB (.cells #[v, .int .i64 (szI x)] 48) (ptr w1.heap.size) (.int .i64 0)
  have HF := Lib.hid HF
  have HB := Lib.hid hB
  have HV := Lib.hid hv
  obtain ⟨vb, rfl, _⟩ := hv.ptr
  clear hB hr hv
  go_wp2_with fail
  show Leaves _ _ _ _ _ _ _
  refine leaves_cons (f := 19) (args := #[ptr w.heap.size, ptr (w.heap.size + 1)]) (by simp) (by simp [go_sem]) ?_
  refine catch_none.mono ?_
  rintro e u' w'' ⟨rfl, rfl, rfl⟩
  obtain ⟨f0, f1, f2, f3, f4⟩ := HF.out
  have f5 := HV.out.keep f4
  simp [Leaves, settle, results, Tryz.results7, go_sem, f0, f1]
  exact ⟨⟨⟨_, rfl, h_lt f3⟩, _, _, rfl, f3, f5⟩, f2⟩
/-- What Parse answers, of what is read. -/
theorem parse_c {w : World} {m : Int} (s : List UInt8) (ext fold : Bool) (hs : s.length ≤ 1048640) (hG : 3 < w.heap.size) (hm : w.cell? ⟨3, 0, none⟩ = some (.int .i64 m)) : Calls Tryz.prog 7 #[.string (bs s), .bool ext, .bool fold] w (fun e w' => (match parseS ext fold s with
      | .ok x => ∃ v, e = .returned (.tuple #[v, .int .i64 0]) ∧ isPtr w' v ∧ ReP w' v x
      | .error n => e = .returned (.tuple #[.pointer none, .int .i64 (n : Int)])) ∧ Below w.heap.size w w') := by
  cases hn : readS id ext fold s with
  | none =>
    rw [show parseS ext fold s = .error 20 by unfold parseS; rw [hn]]
    exact parse_none s ext fold hs hG hm hn
  | some x =>
    by_cases hx : 10000 < x.size
    · rw [show parseS ext fold s = .error 12 by unfold parseS; rw [hn]; exact if_pos hx]
      exact parse_many s ext fold hs hG hm hn hx
    · rw [show parseS ext fold s = .ok x by unfold parseS; rw [hn]; exact if_neg hx]
      exact parse_ok s ext fold hs hG hm hn hx
end Go.Proofs.YtlekfdkahlobiaaGreatDoor.Re

namespace Go.Proofs.YtlekfdkahlobiaaGreatDoor.Re
open Go.Proofs.YtlekfdkahlobiaaGreatDoor.Tr
open Go.RowKit

/-- A node, with all that it is made of; no row of kids is the block gl. -/
def NodeQ (gl : Nat) (w : World) : Value → Nd → Prop
  | v, ⟨k, p, m, n, l⟩ => ∃ b kv, v = ptr b ∧ BlkAt 54 w b k p m n kv ∧
      ((kv = .slice none 0 0 ∧ l = []) ∨ ∃ kb off cap cs, kv = .slice (some ⟨kb, off, none⟩) l.length cap ∧ (l.length ≤ cap ∧ cap ≤ 9223372036854775807) ∧ kb ≠ gl ∧ w.heap[kb]? = some (.cells cs 30) ∧ kidsQ cs off 0 l)
  where kidsQ (cs : Array Value) (off : Nat) : Nat → List Nd → Prop
  | _, [] => True
  | j, x :: l => (∃ v, cs[off + j]? = some v ∧ NodeQ gl w v x) ∧ kidsQ cs off (j + 1) l
/-- A row of kids. -/
def RowQ (gl : Nat) (w : World) (kv : Value) (l : List Nd) : Prop :=
  (kv = .slice none 0 0 ∧ l = []) ∨ ∃ kb off cap cs, kv = .slice (some ⟨kb, off, none⟩) l.length cap ∧ (l.length ≤ cap ∧ cap ≤ 9223372036854775807) ∧ kb ≠ gl ∧ w.heap[kb]? = some (.cells cs 30) ∧ NodeQ.kidsQ gl w cs off 0 l
theorem nodeQ_iff {gl : Nat} {w : World} {v : Value} {k : Nat} {p : UInt8 → Bool} {m n : Int} {l : List Nd} : NodeQ gl w v ⟨k, p, m, n, l⟩ ↔ ∃ b kv, v = ptr b ∧ BlkAt 54 w b k p m n kv ∧ RowQ gl w kv l := by
  rw [NodeQ]
  exact Iff.rfl
theorem kidsQ_iff {gl : Nat} {w : World} {cs : Array Value} {off : Nat} : ∀ {l : List Nd} {j : Nat}, NodeQ.kidsQ gl w cs off j l ↔ ∀ (i : Nat) (x : Nd), l[i]? = some x → ∃ v, cs[off + (j + i)]? = some v ∧ NodeQ gl w v x
  | [], j => by rw [NodeQ.kidsQ]; exact ⟨fun _ i x h => by simp at h, fun _ => trivial⟩
  | y :: l, j => by
    rw [NodeQ.kidsQ, kidsQ_iff (l := l) (j := j + 1)]
    constructor
    · rintro ⟨h1, h2⟩ i x hx
      cases i with
      | zero => cases hx; exact h1
      | succ i =>
        have := h2 i x (by simpa using hx)
        rw [show j + 1 + i = j + (i + 1) by omega] at this
        exact this
    · intro h
      refine ⟨h 0 y rfl, fun i x hx => ?_⟩
      have := h (i + 1) x (by simpa using hx)
      rw [show j + 1 + i = j + (i + 1) by omega]
      exact this
theorem NodeP.q {w : World} {gl : Nat} (hg : w.heap.size ≤ gl) : ∀ {v : Value} {x : Nd}, NodeP w v x → NodeQ gl w v x
  | v, ⟨k, p, m, n, l⟩, h => by
    rw [NodeP] at h
    rw [NodeQ]
    obtain ⟨b, kv, hv, hB, hk⟩ := h
    refine ⟨b, kv, hv, hB, ?_⟩
    rcases hk with hk | ⟨kb, off, cap, cs, h1, h2, h3, h4⟩
    · exact .inl hk
    · exact .inr ⟨kb, off, cap, cs, h1, h2, by have := h_lt h3; omega, h3, kids l 0 cs off h4⟩
  where kids : ∀ (l : List Nd) (j : Nat) (cs : Array Value) (off : Nat), NodeP.kidsP w cs off j l → NodeQ.kidsQ gl w cs off j l
  | [], _, _, _, _ => by rw [NodeQ.kidsQ]; trivial
  | x :: l, j, cs, off, h => by
    rw [NodeP.kidsP] at h
    rw [NodeQ.kidsQ]
    obtain ⟨⟨v, h1, h2⟩, h3⟩ := h
    exact ⟨⟨v, h1, NodeP.q hg h2⟩, kids l (j + 1) cs off h3⟩
theorem NodeQ.p {w : World} {gl : Nat} : ∀ {v : Value} {x : Nd}, NodeQ gl w v x → NodeP w v x
  | v, ⟨k, p, m, n, l⟩, h => by
    rw [NodeQ] at h
    rw [NodeP]
    obtain ⟨b, kv, hv, hB, hk⟩ := h
    refine ⟨b, kv, hv, hB, ?_⟩
    rcases hk with hk | ⟨kb, off, cap, cs, h1, h2, _, h3, h4⟩
    · exact .inl hk
    · exact .inr ⟨kb, off, cap, cs, h1, h2, h3, kids l 0 cs off h4⟩
  where kids : ∀ (l : List Nd) (j : Nat) (cs : Array Value) (off : Nat), NodeQ.kidsQ gl w cs off j l → NodeP.kidsP w cs off j l
  | [], _, _, _, _ => by rw [NodeP.kidsP]; trivial
  | x :: l, j, cs, off, h => by
    rw [NodeQ.kidsQ] at h
    rw [NodeP.kidsP]
    obtain ⟨⟨v, h1, h2⟩, h3⟩ := h
    exact ⟨⟨v, h1, NodeQ.p h2⟩, kids l (j + 1) cs off h3⟩
/-- Nodes, and their rows but for one block, are as they were. -/
def QKeep (gl : Nat) (w w' : World) : Prop := ∀ (b : Nat) (cs : Array Value) (T : Nat), T = 54 ∨ (T = 30 ∧ b ≠ gl) → w.heap[b]? = some (.cells cs T) → w'.heap[b]? = some (.cells cs T)
theorem QKeep.of {gl : Nat} {w w' : World} (h : Below w.heap.size w w') : QKeep gl w w' := fun b _ _ _ hb => (h.block b (h_lt hb)).trans hb
theorem NodeQ.keep {gl gl' : Nat} {w w' : World} (hk : QKeep gl w w') (hg : gl' = gl ∨ w.heap.size ≤ gl') : ∀ {v : Value} {x : Nd}, NodeQ gl w v x → NodeQ gl' w' v x
  | v, ⟨k, p, m, n, l⟩, h => by
    rw [NodeQ] at h ⊢
    obtain ⟨b, kv, hv, hB, hd⟩ := h
    refine ⟨b, kv, hv, hk b _ _ (.inl rfl) hB, ?_⟩
    rcases hd with hd | ⟨kb, off, cap, cs, h1, h2, h5, h3, h4⟩
    · exact .inl hd
    · exact .inr ⟨kb, off, cap, cs, h1, h2, by rcases hg with rfl | hg; exact h5; have := h_lt h3; omega, hk kb _ _ (.inr ⟨rfl, h5⟩) h3, kids l 0 cs off h4⟩
  where kids : ∀ (l : List Nd) (j : Nat) (cs : Array Value) (off : Nat), NodeQ.kidsQ gl w cs off j l → NodeQ.kidsQ gl' w' cs off j l
  | [], _, _, _, _ => by rw [NodeQ.kidsQ]; trivial
  | x :: l, j, cs, off, h => by
    rw [NodeQ.kidsQ] at h ⊢
    obtain ⟨⟨v, h1, h2⟩, h3⟩ := h
    exact ⟨⟨v, h1, NodeQ.keep hk hg h2⟩, kids l (j + 1) cs off h3⟩
theorem ndC_kv_eq {k k' : Nat} {p p' : UInt8 → Bool} {m m' n n' : Int} {kv kv' : Value} (h : ndC k p m n kv = ndC k' p' m' n' kv') : kv = kv' := by
  have h1 := ndC_kv k p m n kv
  rw [h, ndC_kv] at h1
  exact (Option.some.inj h1).symm
/-- A node of which another row of the same kids is laid: all nodes are what they were. -/
theorem NodeQ.set {gl : Nat} {w : World} {nb k : Nat} {p : UInt8 → Bool} {m n : Int} {kv kv' : Value} (hb : BlkAt 54 w nb k p m n kv) (hr : ∀ l, RowQ gl w kv l → RowQ gl w kv' l) : ∀ {v : Value} {x : Nd}, NodeQ gl w v x → NodeQ gl (w.setCell ⟨nb, 259, none⟩ kv') v x
  | v, ⟨k', p', m', n', l⟩, h => by
    rw [nodeQ_iff] at h ⊢
    obtain ⟨b, kvb, rfl, hB, hd⟩ := h
    have hrow : ∀ r, RowQ gl w r l → RowQ gl (w.setCell ⟨nb, 259, none⟩ kv') r l := by
      intro r h
      rcases h with h | ⟨kb, off, cap, cs, h1, h2, h5, h3, h4⟩
      · exact .inl h
      · refine .inr ⟨kb, off, cap, cs, h1, h2, h5, ?_, kids l 0 cs off h4⟩
        refine (Below.heap_setCell _ _ _ _ fun e => ?_).trans h3
        have e : kb = nb := e
        rw [e, hb] at h3
        injection h3 with h3
        injection h3 with _ h6 _
        exact absurd h6 (by decide)
    by_cases e : b = nb
    · subst e
      have e1 : ndC k p m n kv = ndC k' p' m' n' kvb := by
        have := hb.symm.trans hB
        injection this with this
        injection this
      have e2 := ndC_kv_eq e1
      subst e2
      refine ⟨b, kv', rfl, ?_, hrow kv' (hr l hd)⟩
      have h1 := h_set hB 259 kv'
      rw [p_ndC_setkv] at h1
      exact h1
    · exact ⟨b, kvb, rfl, (Below.heap_setCell _ _ _ _ (fun h => e h)).trans hB, hrow kvb hd⟩
  where kids : ∀ (l : List Nd) (j : Nat) (cs : Array Value) (off : Nat), NodeQ.kidsQ gl w cs off j l → NodeQ.kidsQ gl (w.setCell ⟨nb, 259, none⟩ kv') cs off j l
  | [], _, _, _, _ => by rw [NodeQ.kidsQ]; trivial
  | x :: l, j, cs, off, h => by
    rw [NodeQ.kidsQ] at h ⊢
    obtain ⟨⟨v, h1, h2⟩, h3⟩ := h
    exact ⟨⟨v, h1, NodeQ.set hb hr h2⟩, kids l (j + 1) cs off h3⟩
/-- A node in another block with the same cells. -/
theorem NodeQ.twin {gl : Nat} {w : World} {b b' : Nat} {cs : Array Value} (h1 : w.heap[b]? = some (.cells cs 54)) (h2 : w.heap[b']? = some (.cells cs 54)) {x : Nd} (h : NodeQ gl w (ptr b) x) : NodeQ gl w (ptr b') x := by
  obtain ⟨k, p, m, n, l⟩ := x
  rw [nodeQ_iff] at h ⊢
  obtain ⟨c, kv, e, hB, hd⟩ := h
  have e : c = b := by cases e; rfl
  subst e
  have e2 : cs = ndC k p m n kv := by
    have := h1.symm.trans hB
    injection this with this
    injection this
  rw [e2] at h2
  exact ⟨b', kv, rfl, h2, hd⟩
theorem NodeQ.open {gl : Nat} {w : World} {v : Value} {k : Nat} {p : UInt8 → Bool} {m n : Int} {l : List Nd} (h : NodeQ gl w v ⟨k, p, m, n, l⟩) :
    ∃ (b : Nat) (a : Option Addr) (cap : Nat) (L : List (Value × Nd)), v = ptr b ∧ BlkAt 54 w b k p m n (.slice a L.length cap) ∧ L.length ≤ cap ∧ cap ≤ 9223372036854775807 ∧ L.map Prod.snd = l ∧ ∀ (i : Nat) (q : Value × Nd), L[i]? = some q → NodeQ gl w q.1 q.2 ∧ ∃ kb off, a = some ⟨kb, off, none⟩ ∧ w.cell? ⟨kb, off + i, none⟩ = some q.1 := by
  rw [nodeQ_iff] at h
  obtain ⟨b, kv, rfl, hB, hk⟩ := h
  rcases hk with ⟨rfl, rfl⟩ | ⟨kb, off, cap, cs, rfl, h2, h5, h3, h4⟩
  · exact ⟨b, none, 0, [], rfl, hB, Nat.le_refl _, by decide, rfl, fun i q hq => by simp at hq⟩
  · have hL : ∀ (l : List Nd) (j : Nat), NodeQ.kidsQ gl w cs off j l → ∃ L : List (Value × Nd), L.map Prod.snd = l ∧ ∀ (i : Nat) (q : Value × Nd), L[i]? = some q → NodeQ gl w q.1 q.2 ∧ cs[off + (j + i)]? = some q.1 := by
      intro l
      induction l with
      | nil => intro j _; exact ⟨[], rfl, fun i q hq => by simp at hq⟩
      | cons x l ih =>
        intro j h
        rw [NodeQ.kidsQ] at h
        obtain ⟨⟨v, h1, h2⟩, h3⟩ := h
        obtain ⟨L, e, hL⟩ := ih (j + 1) h3
        refine ⟨(v, x) :: L, by rw [List.map_cons, e], fun i q hq => ?_⟩
        cases i with
        | zero => cases hq; exact ⟨h2, h1⟩
        | succ i =>
          have := hL i q (by simpa using hq)
          rw [show j + 1 + i = j + (i + 1) by omega] at this
          exact this
    obtain ⟨L, e, hL⟩ := hL l 0 h4
    have hl : L.length = l.length := by rw [← e, List.length_map]
    refine ⟨b, some ⟨kb, off, none⟩, cap, L, rfl, by rw [hl]; exact hB, by omega, h2.2, e, fun i q hq => ?_⟩
    obtain ⟨h5, h6⟩ := hL i q hq
    rw [Nat.zero_add] at h6
    exact ⟨h5, kb, off, rfl, h_cell h3 _ h6⟩
/-- While kids are copied. -/
structure CkI (gl : Nat) (w0 : World) (L : List (Value × Nd)) (wr : World) (v : Value) (L1 : List (Value × Nd)) : Prop where
  bel : Below w0.heap.size w0 wr
  row : wr.ownsRow w0.heap.size 30 1 v L1.length (L1.map Prod.fst)
  nil : L1 = [] → v = .slice none 0 0
  cop : ∀ (j : Nat) (q : Value × Nd), L1[j]? = some q → ∃ b0 b cs, L[j]? = some (ptr b0, q.2) ∧ q.1 = ptr b ∧ w0.heap.size ≤ b ∧ w0.heap[b0]? = some (.cells cs 54) ∧ wr.heap[b]? = some (.cells cs 54)
/-- What copyKids leaves. -/
def CkO (gl nb : Nat) (L : List (Value × Nd)) (w0 : World) (e : Ending) (w' : World) : Prop :=
  ∃ v L', e = .returned v ∧ L'.map Prod.snd = L.map Prod.snd ∧ w'.ownsRow w0.heap.size 30 1 v L'.length (L'.map Prod.fst) ∧ (L' = [] → v = .slice none 0 0) ∧ (∀ q ∈ L', NodeQ gl w' q.1 q.2 ∧ ∃ b, q.1 = ptr b ∧ w0.heap.size ≤ b) ∧ (∀ v z, NodeQ gl w0 v z → NodeQ gl w' v z) ∧ Bar nb w0 w'
theorem ck_fin {gl nb k : Nat} {p : UInt8 → Bool} {m n : Int} {a : Option Addr} {cap : Nat} {w0 wr : World} {L L1 : List (Value × Nd)} {v : Value} (hgl : gl < w0.heap.size) (hb : BlkAt 54 w0 nb k p m n (.slice a L.length cap)) (hk : ∀ (i : Nat) (q : Value × Nd), L[i]? = some q → NodeQ gl w0 q.1 q.2 ∧ ∃ kb off, a = some ⟨kb, off, none⟩ ∧ w0.cell? ⟨kb, off + i, none⟩ = some q.1) (h : CkI gl w0 L wr v L1) (hl : L1.length = L.length) : CkO gl nb L w0 (.returned v) (wr.setCell ⟨nb, 259, none⟩ v) := by
  have hnd : ∀ {j : Nat} {q : Value × Nd}, L1[j]? = some q → ∃ b0 b cs, L[j]? = some (ptr b0, q.2) ∧ q.1 = ptr b ∧ w0.heap.size ≤ b ∧ wr.heap[b0]? = some (.cells cs 54) ∧ wr.heap[b]? = some (.cells cs 54) := fun hq => by
    obtain ⟨b0, b, cs, h1, h2, h3, h4, h5⟩ := h.cop _ _ hq
    exact ⟨b0, b, cs, h1, h2, h3, (h.bel.block _ (h_lt h4)).trans h4, h5⟩
  have hsnd : L1.map Prod.snd = L.map Prod.snd := by
    apply List.ext_getElem?
    intro j
    rw [List.getElem?_map, List.getElem?_map]
    cases hj : L1[j]? with
    | none =>
      have : L1.length ≤ j := List.getElem?_eq_none_iff.1 hj
      rw [List.getElem?_eq_none (l := L) (by omega)]
    | some q =>
      obtain ⟨b0, b, cs, h1, _⟩ := hnd hj
      rw [h1]
      rfl
  have hbw : BlkAt 54 wr nb k p m n (.slice a L.length cap) := (h.bel.block _ (h_lt hb)).trans hb
  have hset : ∀ {v' : Value} {z : Nd}, NodeQ gl wr v' z → NodeQ gl (wr.setCell ⟨nb, 259, none⟩ v) v' z := by
    intro v' z hz
    refine NodeQ.set hbw (fun l hr => ?_) hz
    rcases hr with ⟨e, rfl⟩ | ⟨kb, off, cap', cs, e, h2, h5, h3, h4⟩
    · injection e with _ el _
      have : L1 = [] := List.length_eq_zero_iff.1 (by omega)
      exact .inl ⟨h.nil this, rfl⟩
    · injection e with ea el ec
      subst ea
      subst ec
      rcases h.row.2 with ⟨rfl, h0⟩ | ⟨g, cap2, cur, rfl, hbg, hg, hle, hcap, hsz, ht⟩
      · have : l = [] := List.length_eq_zero_iff.1 (by omega)
        exact .inl ⟨rfl, this⟩
      · refine .inr ⟨g, 0, cap2, cur, by rw [hl, el], ⟨by omega, by unfold maxLen at hcap; exact hcap⟩, by omega, hg, kidsQ_iff.2 fun i x hx => ?_⟩
        obtain ⟨u, hu1, hu2⟩ := kidsQ_iff.1 h4 i x hx
        have hi : i < L1.length := by have := (List.getElem?_eq_some_iff.1 hx).1; omega
        obtain ⟨q, hq⟩ : ∃ q, L1[i]? = some q := ⟨_, List.getElem?_eq_getElem hi⟩
        obtain ⟨b0, b, cs0, g1, g2, g3, g4, g5⟩ := hnd hq
        obtain ⟨_, kb', off', e', hc⟩ := hk i _ g1
        cases e'
        rw [Nat.zero_add] at hu1
        have hc2 := h_cell h3 _ hu1
        have hc3 := cell_below h.bel hc
        have eu : u = ptr b0 := Option.some.inj (hc2.symm.trans hc3)
        subst eu
        refine ⟨ptr b, ?_, NodeQ.twin g4 g5 hu2⟩
        have h6 : (L1.map Prod.fst)[i]? = some (ptr b) := by rw [List.getElem?_map, hq, Option.map_some, g2]
        rw [← ht, List.getElem?_take, if_pos (by omega)] at h6
        rw [Nat.zero_add, Nat.zero_add]
        simpa using h6
  refine ⟨v, L1, rfl, hsnd, ?_, h.nil, fun q hq => ?_, fun v' z hz => hset (hz.keep (QKeep.of h.bel) (.inl rfl)), (Bar.of h.bel).trans (Bar.set _ _ _ _)⟩
  · exact row_keep h.row fun g cur hg => (Below.heap_setCell _ _ _ _ fun e => by
      have e : g = nb := e
      rw [e, hbw] at hg
      injection hg with hg
      injection hg with _ h6 _
      exact absurd h6 (by decide)).trans hg
  · obtain ⟨j, hj⟩ := List.getElem?_of_mem hq
    obtain ⟨b0, b, cs, h1, h2, h3, h4, h5⟩ := hnd hj
    refine ⟨?_, b, h2, h3⟩
    rw [h2]
    have h6 := (hk j _ h1).1
    exact hset (NodeQ.twin h4 h5 (h6.keep (QKeep.of h.bel) (.inl rfl)))
end Go.Proofs.YtlekfdkahlobiaaGreatDoor.Re
