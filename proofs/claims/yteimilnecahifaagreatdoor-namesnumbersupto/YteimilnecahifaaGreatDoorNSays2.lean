/- names: the map of utilities, Start, Run; echo, true and false whole. -/
import Derived.Test.YteimilnecahifaaGreatDoorFDo3
import Derived.Test.YteimilnecahifaaGreatDoorNRef2
import Derived.Test.YteimilnecahifaaGreatDoorMNewP
import Derived.Test.YteimilnecahifaaGreatDoorNAsk
namespace Go.Proofs.YteimilnecahifaaGreatDoor
open Go.RowKit Go.Shelf Go.Maps

/-- What a run comes to. -/
def RunOut (w : World) (Q : Int → Sx → Prop) (e : Ending) (w' : World) : Prop :=
  ∃ ov ev st s2, e = .returned (.tuple #[.agg #[ov, ev, .int .i64 st, .slice none 0 0, .int .i64 s2.steps, .int .i64 s2.peak, .int .i64 s2.k.used], .bool true]) ∧ w'.ownsRow w.heap.size 5 1 ov s2.k.out.length (u8s s2.k.out) ∧ w'.ownsRow w.heap.size 5 1 ev s2.k.err.length (u8s s2.k.err) ∧ Q st s2 ∧ Below w.heap.size w w'
theorem util_run {u0 : Value} {c0 : KCall} {Q : Int → Sx → Prop} (hN : PNewSays) (av ev iv : Value) (fv : Value) (fb : Nat) (l : List (Int × Int)) (sa se : List ByteArray) (ins : List UInt8) (l1 l2 l3 now m : Int) (sf : Nat) (w : World) (hm : w.cell? ⟨0, 0, none⟩ = some (.int .i64 m)) (ha : SsAt w av sa) (he : SsAt w ev se) (hi : ByAt w iv ins) (hF : Fl w fv fb l) (hna : 0 < sa.length) (hla : sa.length ≤ 1048576) (hle : se.length ≤ 1048576) (hli : ins.length ≤ 1073741824) (hlf : l.length ≤ 1048576) (h1 : 1 ≤ l1 ∧ l1 ≤ 1099511627776) (h2 : 1 ≤ l2 ∧ l2 ≤ 1099511627776) (h3 : 1 ≤ l3 ∧ l3 ≤ 1099511627776) (hl : l2 ≤ l3) (hn : 0 ≤ now ∧ now ≤ 1099511627776) (hmild : Mild l) (hc0 : CallOk c0)
    (hQ : ∀ st s2, Q st s2 → s2.k.out.length ≤ 1073741824 ∧ s2.k.err.length ≤ 1073741824)
    (hcs : ∀ (z : Array Value) (u : World), (callFunc sf z).run Tryz.prog u = .ok (.enter sf z) u) (hcf : ∀ (z : Array Value) (u : World), (callFunc 83 z).run Tryz.prog u = .ok (.enter 83 z) u)
    (hM : HMain w ins sa l l1 l2 l3 c0 u0 Q)
    (hstart : ∀ (G : Gh) (u : World) (rv : Value), Rdy G u ins sa rv → G.faults = l → G.l1 = l1 ∧ G.l2 = l2 ∧ G.l3 = l3 → Turn [] w u → Calls Tryz.prog sf #[ptr G.p] u (Started G u 83 u0 c0)) :
    Calls Tryz.prog 29 #[jobV av ev iv l1 l2 l3 fv now (.slice none 0 0), .func (.func sf) #[] #[]] w (RunOut w Q) := by
  refine (run_c (Q := fun st k held peak steps => Q st ⟨k, held, peak, steps⟩) hN av ev iv fv fb l sa se ins l1 l2 l3 now m sf w hm ha he hi hF hna hla hle hli hlf h1 h2 h3 hl hn hmild hc0 (fun st k' held' peak' steps' h => hQ _ _ h) hcs hcf hstart (fun G u e1 e2 e3 _ ha hT => main_at hM G u e1 e2 e3 ha hT)).mono ?_
  rintro e w' ⟨ov, ev, st, k', held', peak', steps', rfl, h1, h2, hq, hB⟩
  exact ⟨ov, ev, st, ⟨k', held', peak', steps'⟩, rfl, h1, h2, hq, hB⟩
theorem pnew_says : PNewSays := fun k av ev sa se cwd l1 l2 l3 w => pnew_c k av ev sa se cwd l1 l2 l3 w
theorem Rdy.below {G : Gh} {u u1 : World} {ins : List UInt8} {rv : Value} {sb : List ByteArray} (h : Rdy G u ins sb rv) (hB : Below u.heap.size u u1) : Rdy G u1 ins sb rv :=
  ⟨(Turn.below (S := []) hB).ob h.pr (by simp), h.ki.keep (Turn.below (S := []) hB) (by simp), own_turn h.av (Turn.below (S := []) hB) (by simp), ⟨Nat.lt_of_lt_of_le h.lt.1 hB.size, Nat.lt_of_lt_of_le h.lt.2.1 hB.size, Nat.lt_of_lt_of_le h.lt.2.2.1 hB.size, Nat.lt_of_lt_of_le h.lt.2.2.2.1 hB.size, Nat.lt_of_lt_of_le h.lt.2.2.2.2.1 hB.size, Nat.lt_of_lt_of_le h.lt.2.2.2.2.2.1 hB.size, Nat.lt_of_lt_of_le h.lt.2.2.2.2.2.2.1 hB.size, Nat.lt_of_lt_of_le h.lt.2.2.2.2.2.2.2.1 hB.size, Nat.lt_of_lt_of_le h.lt.2.2.2.2.2.2.2.2 hB.size⟩, h.fm, h.cw⟩
/-- The entries, by their names. -/
def utN (fd : Nat) (plain : Bool) : Value := .agg #[.string ⟨#[]⟩, .bool plain, .func (.func fd) #[] #[], .int .i64 0]
def utF (d : ByteArray) : Option Value :=
  if d = Nm.nTrue then some (utN 89 true) else if d = Nm.nPrintf then some (utN 88 false) else if d = Nm.nFalse then some (utN 87 true) else if d = Nm.nEcho then some (utN 86 true) else if d = Nm.nDir then some (utN 85 false) else if d = Nm.nBase then some (utN 84 false) else none
set_option maxRecDepth 100000 in
set_option maxHeartbeats 4000000 in
theorem utils_c (w : World) : Calls Tryz.prog 55 #[] w fun e w' => e = .returned (.map (some w.heap.size)) ∧ MapS w' w.heap.size 6 utF ∧ Below w.heap.size w w' := by
  have hmk : (Instr.makeMap 102 none).run Tryz.prog w = .ok (.map (some w.heap.size)) (w.alloc (.map #[] 0)) := run_makeMap ..
  have hm0 : MapS (w.alloc (.map #[] 0)) w.heap.size 0 (fun _ => none) := MapS.made w
  have hB0 : Below w.heap.size w (w.alloc (.map #[] 0)) := (Below.refl _ w).alloc (Nat.le_refl _) _
  have hU := Tryz.underlying102
  have hg : ∀ {a b : World}, Below w.heap.size w a → a.grownBy b (some w.heap.size) → Below w.heap.size w b := fun {a b} ha hgr => ha.grown hgr (by have := ha.size; omega) (fun j ej => by have e : w.heap.size = j := (by simpa using ej); omega)
  obtain ⟨w1, hu1, hm1, hg1⟩ := hm0.put hU (by decide) Nm.nBase (by decide) (utN 84 false)
  obtain ⟨w2, hu2, hm2, hg2⟩ := hm1.put hU (by decide) Nm.nDir (by decide) (utN 85 false)
  obtain ⟨w3, hu3, hm3, hg3⟩ := hm2.put hU (by decide) Nm.nEcho (by decide) (utN 86 true)
  obtain ⟨w4, hu4, hm4, hg4⟩ := hm3.put hU (by decide) Nm.nFalse (by decide) (utN 87 true)
  obtain ⟨w5, hu5, hm5, hg5⟩ := hm4.put hU (by decide) Nm.nPrintf (by decide) (utN 88 false)
  obtain ⟨w6, hu6, hm6, hg6⟩ := hm5.put hU (by decide) Nm.nTrue (by decide) (utN 89 true)
  have hB6 : Below w.heap.size w w6 := hg (hg (hg (hg (hg (hg hB0 hg1) hg2) hg3) hg4) hg5) hg6
  have HX := Lib.hid (And.intro hm6 hB6)
  clear hm0 hB0 hm1 hm2 hm3 hm4 hm5 hm6 hg1 hg2 hg3 hg4 hg5 hg6 hB6 hg hU
  unfold utN at hu1 hu2 hu3 hu4 hu5 hu6
  unfold Nm.nBase at hu1
  unfold Nm.nDir at hu2
  unfold Nm.nEcho at hu3
  unfold Nm.nFalse at hu4
  unfold Nm.nPrintf at hu5
  unfold Nm.nTrue at hu6
  go_enter Tryz.func55, Tryz.ntmps55
  go_wp2
  go_ret
  exact ⟨rfl, HX.out.1, HX.out.2⟩
set_option maxRecDepth 100000 in
set_option maxHeartbeats 2000000 in
/-- Start, over task.Start of the map. -/
theorem nstart_g {R : Ending → World → Prop} {u : World} {p : Nat} (hst : ∀ u1, MapS u1 u.heap.size 6 utF → Below u.heap.size u u1 → Calls Tryz.prog 54 #[ptr p, .map (some u.heap.size)] u1 fun e w' => ∃ m, e = .returned (ptr m) ∧ R e w') : Calls Tryz.prog 30 #[ptr p] u R := by
  have hut := utils_c u
  have HS := Lib.hid hst
  clear hst
  go_enter Tryz.func30, Tryz.ntmps30
  go_wp2_with (go_at_call 55; refine hut.mono ?_; rintro e u1 ⟨rfl, hm1, hB1⟩; have hst := HS.out u1 hm1 hB1; clear hm1 hB1 hut)
  refine hst.mono ?_
  rintro e u2 ⟨m1, rfl, hR⟩
  go_wp2_with fail
  exact hR
section
variable {ins : List UInt8} {sa : List ByteArray} {nm : ByteArray} {fd : Nat} {pl : Bool}
theorem EndedZ.from {G : Gh} {a b c : World} {rv : Value} {st : Int} {e : Ending} (h : EndedZ G b ins rv st e c) (hB : Below a.heap.size a b) : EndedZ G a ins rv st e c := by
  obtain ⟨m, he, h1, h2, h3, h4⟩ := h
  exact ⟨m, he, Nat.le_trans hB.size h1, h2, h3, ((Turn.below (S := []) hB).mono (by simp)).trans h4⟩
/-- A utility whose main makes a call. -/
theorem nstart_c {w : World} {l : List (Int × Int)} {l1 l2 l3 : Int} {c0 : KCall} {Q : Int → Sx → Prop} {G : Gh} {u : World} {rv : Value} (h : HMain w ins (nm :: sa) l l1 l2 l3 c0 (utN fd pl) Q) (hf : utF nm = some (utN fd pl)) (hsz : nm.size ≤ 4194304) (hl : (nm :: sa).length ≤ 1048576) (hR : Rdy G u ins (nm :: sa) rv) (e1 : G.faults = l) (e2 : G.l1 = l1 ∧ G.l2 = l2 ∧ G.l3 = l3) (hT : Turn [] w u) :
    Calls Tryz.prog 30 #[ptr G.p] u (Started G u 83 (utN fd pl) c0) := by
  refine nstart_g (fun u1 hm hB => ?_)
  refine (tstart_c h hsz hl (hR.below hB) e1 e2 (hT.trans (Turn.below hB)) hm hf (fun _ _ => by kernel_rfl)).mono ?_
  intro e w' h2
  obtain ⟨m1, h3⟩ : ∃ m1, e = .returned (ptr m1) := let ⟨m1, _, _, h, _⟩ := h2; ⟨m1, h⟩
  exact ⟨m1, h3, h2.from hB⟩
/-- A utility whose main makes none. -/
theorem nstart_z {st : Int} {G : Gh} {u : World} {rv : Value} (hz : ∀ v m, PrAt v G.p G.kn G.tb G.args G.env sE G.l1 G.l2 G.l3 0 0 .nilIface G.kin false (ptr m) → v.ownsRow 0 9 1 G.args (nm :: sa).length ((nm :: sa).map .string) → Calls Tryz.prog 83 #[utN fd pl, ptr G.p] v fun e u' => e = .returned (.int .i64 st) ∧ Turn [] v u') (hf : utF nm = some (utN fd pl)) (hsz : nm.size ≤ 4194304) (hl : (nm :: sa).length ≤ 1048576) (hR : Rdy G u ins (nm :: sa) rv) :
    Calls Tryz.prog 30 #[ptr G.p] u (EndedZ G u ins rv st) := by
  refine nstart_g (fun u1 hm hB => ?_)
  refine (tstart_z hz hsz hl (hR.below hB) hm hf (fun _ _ => by kernel_rfl)).mono ?_
  intro e w' h2
  obtain ⟨m1, h3⟩ : ∃ m1, e = .returned (ptr m1) := let ⟨m1, h, _⟩ := h2; ⟨m1, h⟩
  exact ⟨m1, h3, h2.from hB⟩
end
set_option maxRecDepth 100000 in
set_option maxHeartbeats 2000000 in
/-- Run, over proc.Run. -/
theorem nrun_g (av : Value) (sa : List ByteArray) (r : Nm.Res) (w : World) (hS : Op.StrsAt w av sa) (hrun : ∀ W, Below w.heap.size w W → Calls Tryz.prog 29 #[Nm.jobN av, .func (.func 30) #[] #[]] W (Nm.RunN W r)) :
    Calls Tryz.prog 20 #[Nm.jobN av] w (Nm.RunN w r) := by
  obtain ⟨xa, na, ca, rfl⟩ : ∃ a n c, av = .slice a n c := by
    rcases hS with ⟨rfl, _⟩ | ⟨b, off, cap, rfl, _⟩ <;> exact ⟨_, _, _, rfl⟩
  have hJB : Below w.heap.size w ((w.alloc (.cells #[.slice xa na ca, .slice none 0 0, .string ⟨#[]⟩, .slice none 0 0, .slice none 0 0, .int .i64 3, .int .i64 9, .int .i64 9, .slice none 0 0, .int .i64 0, .slice none 0 0] 46)).alloc (.cells Nm.res0 30)) := ((Below.refl _ w).alloc (Nat.le_refl _) _).alloc (by simp) _
  have hr1 := hrun _ hJB
  have hres : ((w.alloc (.cells #[.slice xa na ca, .slice none 0 0, .string ⟨#[]⟩, .slice none 0 0, .slice none 0 0, .int .i64 3, .int .i64 9, .int .i64 9, .slice none 0 0, .int .i64 0, .slice none 0 0] 46)).alloc (.cells Nm.res0 30)).heap[w.heap.size + 1]? = some (.cells Nm.res0 30 (0, 0)) := al_new _ _ (by simp)
  unfold Nm.res0 at hJB hr1 hres
  have HR := Lib.hid (And.intro hJB hres)
  clear hrun hS hJB hres
  go_enter Tryz.func20, Tryz.ntmps20
  go_wp2_with fail
  have hz : ((w.alloc (.cells #[.slice xa na ca, .slice none 0 0, .string ⟨#[]⟩, .slice none 0 0, .slice none 0 0, .int .i64 3, .int .i64 9, .int .i64 9, .slice none 0 0, .int .i64 0, .slice none 0 0] 46)).alloc (.cells #[.slice none 0 0, .slice none 0 0, .int .i64 0, .slice none 0 0, .int .i64 0, .int .i64 0, .int .i64 0] 30)).heap.size = w.heap.size + 2 := by simp
  generalize (w.alloc (.cells #[.slice xa na ca, .slice none 0 0, .string ⟨#[]⟩, .slice none 0 0, .slice none 0 0, .int .i64 3, .int .i64 9, .int .i64 9, .slice none 0 0, .int .i64 0, .slice none 0 0] 46)).alloc (.cells #[.slice none 0 0, .slice none 0 0, .int .i64 0, .slice none 0 0, .int .i64 0, .int .i64 0, .int .i64 0] 30) = X at hr1 HR hz ⊢
  refine hr1.mono ?_
  rintro e w3 ⟨ov, ev, n1, n2, n3, rfl, hO, hE, hB3⟩
  unfold Nm.resN
  obtain ⟨oa, oc, rfl⟩ := Nm.row_shape hO
  obtain ⟨ea, ec, rfl⟩ := Nm.row_shape hE
  have hR3 := (hB3.block (w.heap.size + 1) (by omega)).trans HR.out.2
  have v0 := h_cell hR3 0 rfl; have v1 := h_cell hR3 1 rfl; have v2 := h_cell hR3 2 rfl; have v3 := h_cell hR3 3 rfl; have v4 := h_cell hR3 4 rfl; have v5 := h_cell hR3 5 rfl; have v6 := h_cell hR3 6 rfl
  have y0 := h_fz hR3 0; have y1 := h_fz hR3 1; have y2 := h_fz hR3 2; have y3 := h_fz hR3 3; have y4 := h_fz hR3 4; have y5 := h_fz hR3 5; have y6 := h_fz hR3 6
  have HO := Lib.hid (And.intro hO (And.intro hE (And.intro (HR.out.1.trans (hB3.mono HR.out.1.size)) hR3)))
  clear hr1 hO hE hB3 hR3 HR
  go_wp2_with fail
  have h1 : (((((((w3.setCell ⟨w.heap.size + 1, 0, none⟩ (.slice oa r.out.length oc)).setCell ⟨w.heap.size + 1, 1, none⟩ (.slice ea r.err.length ec)).setCell ⟨w.heap.size + 1, 2, none⟩ (.int .i64 (r.st : Int))).setCell ⟨w.heap.size + 1, 3, none⟩ (.slice none 0 0)).setCell ⟨w.heap.size + 1, 4, none⟩ (.int .i64 n1)).setCell ⟨w.heap.size + 1, 5, none⟩ (.int .i64 n2)).setCell ⟨w.heap.size + 1, 6, none⟩ (.int .i64 n3)).heap[w.heap.size + 1]? = some (.cells #[.slice oa r.out.length oc, .slice ea r.err.length ec, .int .i64 (r.st : Int), .slice none 0 0, .int .i64 n1, .int .i64 n2, .int .i64 n3] 30) := Nm.set7 HO.out.2.2.2 _ _ _ _ _ _ _
  refine bodyPost_ret (results_rs rfl rfl h1 rfl) rfl ?_
  exact ⟨_, _, n1, n2, n3, rfl, Nm.row_low (Nm.row7 (Nm.row_low HO.out.1 (by omega)) _ _ _ _ _ _ _) (by omega), Nm.row_low (Nm.row7 (Nm.row_low HO.out.2.1 (by omega)) _ _ _ _ _ _ _) (by omega), Nm.below7 HO.out.2.2.1 (Nat.le_succ _) _ _ _ _ _ _ _⟩
/-- From a whole run of a machine. -/
theorem run_of_qp {w : World} {r : Nm.Res} {e : Ending} {w' : World} (h : RunOut w (Nm.QP r.out r.err r.st) e w') : Nm.RunN w r e w' := by
  obtain ⟨ov, ev, st', s2, rfl, h1, h2, ⟨rfl, q1, q2⟩, hB⟩ := h
  rw [q1] at h1
  rw [q2] at h2
  exact ⟨ov, ev, _, _, _, rfl, h1, h2, hB⟩
theorem run_gen (av : Value) (nm : ByteArray) (sa : List ByteArray) (r : Nm.Res) (fd : Nat) (pl : Bool) (c0 : KCall) (m : Int) (w : World) (hm : w.cell? ⟨0, 0, none⟩ = some (.int .i64 m)) (hS : Op.StrsAt w av (nm :: sa)) (hn : sa.length ≤ 1000) (hsz : nm.size ≤ 4194304) (hf : utF nm = some (utN fd pl)) (hc0 : CallOk c0) (hO : r.out.length ≤ 1073741824 ∧ r.err.length ≤ 1073741824) (hM : ∀ W, Below w.heap.size w W → HMain W [] (nm :: sa) [] 3 9 9 c0 (utN fd pl) (Nm.QP r.out r.err r.st)) :
    Calls Tryz.prog 20 #[Nm.jobN av] w (Nm.RunN w r) := by
  refine nrun_g av (nm :: sa) _ w hS (fun W hB => ?_)
  have hmW : W.cell? ⟨0, 0, none⟩ = some (.int .i64 m) := (hB.cell (p := ⟨0, 0, none⟩) (World.block_lt_of_cell? _ _ hm)).trans hm
  have hlm : (nm :: sa).length ≤ 1048576 := by simp; omega
  refine (util_run (u0 := utN fd pl) (c0 := c0) pnew_says av (.slice none 0 0) (.slice none 0 0) (.slice none 0 0) 0 [] (nm :: sa) [] [] 3 9 9 0 m 30 W hmW (hS.below hB) (.inl ⟨rfl, rfl⟩) (.inl ⟨rfl, rfl⟩) ⟨none, 0, rfl, Nat.le_refl _, by simp, .inl ⟨rfl, rfl, rfl⟩⟩ (by simp) hlm (by simp) (by simp) (by simp) (by decide) (by decide) (by decide) (by decide) (by decide) (by simp [Mild]) hc0 (fun st s2 hq => ?_) (fun _ _ => by kernel_rfl) (fun _ _ => by kernel_rfl) (hM W hB) (fun G u rv hR e1 e2 hTu => nstart_c (hM W hB) hf hsz hlm hR e1 e2 hTu)).mono (fun e w' h => run_of_qp h)
  obtain ⟨_, q1, q2⟩ := hq
  rw [q1, q2]
  exact hO
theorem ps_prat {E : Ev} {md : Option Bool} {u : World} {s : Sx} {M : List Nat} (hp : PS E md u s M) : ∃ held peak, PrAt u E.G.p E.G.kn E.G.tb E.G.args E.G.env E.G.cwd E.G.l1 E.G.l2 E.G.l3 held peak E.G.box E.G.kin E.G.isChild (ptr E.G.m) := by
  obtain ⟨rv, v1, v2, hp, _⟩ := hp.ex
  cases md with
  | none => exact ⟨0, 0, hp.1.pr⟩
  | some f => exact ⟨_, _, PB.pr hp⟩
theorem ok_write (isErr : Bool) (bs : List UInt8) (h : bs ≠ []) (hl : bs.length ≤ 1073741824) : CallOk (.write isErr bs) := ⟨fun h => (by cases h), fun _ => ⟨h, hl⟩⟩
theorem run_echo (av : Value) (ops : List ByteArray) (m : Int) (w : World) (hm : w.cell? ⟨0, 0, none⟩ = some (.int .i64 m)) (hS : Op.StrsAt w av (Nm.nEcho :: ops)) (hn : ops.length ≤ 1000) (ht : (Nm.joinS ops).length ≤ 2097152) :
    Calls Tryz.prog 20 #[Nm.jobN av] w (Nm.RunN w ⟨Nm.joinS ops ++ [10], [], 0⟩) := by
  refine run_gen av Nm.nEcho ops ⟨Nm.joinS ops ++ [10], [], 0⟩ 86 true (.write false (Nm.joinS ops ++ [10])) m w hm hS hn (by decide) rfl (ok_write _ _ (by simp) (by simp; omega)) ⟨by simp; omega, by simp⟩ (fun W hB => ?_)
  intro E md u hp hmd hc0 hfl hlim hA hT hcl
  obtain ⟨held, peak, hpr⟩ := ps_prat hp
  refine umain_n (P := UmOut E md [] (QN (Nm.joinS ops ++ [10]) 0) u) (rest := ops) hpr (Nm.nEcho :: ops) (by simp) (by simp; omega) hA ⟨#[]⟩ 86 (fun _ _ => by kernel_rfl) (fun u2 a n c _ hS2 hb2 => parted_plain hS2 hb2) (fun tk lv ov w1 h1 h4 _ ht1 hS1 hB1 => ?_)
  exact echo_do hp ops hc0 (by rw [hfl]; simp) ht (by omega) h1 h4 ht1 hS1 hB1
theorem run_base (av : Value) (a b : ByteArray) (m : Int) (w : World) (hm : w.cell? ⟨0, 0, none⟩ = some (.int .i64 m)) (hS : Op.StrsAt w av [Nm.nBase, a, b]) (ha : a.size ≤ 1048576) (hb : b.size ≤ 1048576) (hP : Op.parseS ⟨#[]⟩ [] [a, b] = some ([], [a, b])) (hl : (Nm.baseS a.data.toList b.data.toList).length ≤ 2097152) :
    Calls Tryz.prog 20 #[Nm.jobN av] w (Nm.RunN w ⟨Nm.baseS a.data.toList b.data.toList ++ [10], [], 0⟩) := by
  refine run_gen av Nm.nBase [a, b] ⟨Nm.baseS a.data.toList b.data.toList ++ [10], [], 0⟩ 84 false (.write false (Nm.baseS a.data.toList b.data.toList ++ [10])) m w hm hS (by simp) (by decide) rfl (ok_write _ _ (by simp) (by simp; omega)) ⟨by simp; omega, by simp⟩ (fun W hB => ?_)
  intro E md u hp hmd hc0 hfl hlim hA hT hcl
  obtain ⟨held, peak, hpr⟩ := ps_prat hp
  refine umain_n (P := UmOut E md [] (QN (Nm.baseS a.data.toList b.data.toList ++ [10]) 0) u) (rest := [a, b]) hpr [Nm.nBase, a, b] (by simp) (by simp) hA ⟨#[]⟩ 84 (fun _ _ => by kernel_rfl) (fun u2 a2 n c hB2 hS2 _ => parted_opt hS2 hB2.size (by decide) (by simp [Op.tot]; omega) (by simp) hP) (fun tk lv ov w1 h1 h4 _ ht1 hS1 hB1 => ?_)
  exact base_do hp a b hc0 (by rw [hfl]; simp) hl (by omega) h1 h4 ht1 hS1 hB1
theorem run_dir (av : Value) (a : ByteArray) (m : Int) (w : World) (hm : w.cell? ⟨0, 0, none⟩ = some (.int .i64 m)) (hS : Op.StrsAt w av [Nm.nDir, a]) (ha : a.size ≤ 1048576) (hP : Op.parseS ⟨#[]⟩ [] [a] = some ([], [a])) (hl : (Nm.dirS a.data.toList).length ≤ 2097152) :
    Calls Tryz.prog 20 #[Nm.jobN av] w (Nm.RunN w ⟨Nm.dirS a.data.toList ++ [10], [], 0⟩) := by
  refine run_gen av Nm.nDir [a] ⟨Nm.dirS a.data.toList ++ [10], [], 0⟩ 85 false (.write false (Nm.dirS a.data.toList ++ [10])) m w hm hS (by simp) (by decide) rfl (ok_write _ _ (by simp) (by simp; omega)) ⟨by simp; omega, by simp⟩ (fun W hB => ?_)
  intro E md u hp hmd hc0 hfl hlim hA hT hcl
  obtain ⟨held, peak, hpr⟩ := ps_prat hp
  refine umain_n (P := UmOut E md [] (QN (Nm.dirS a.data.toList ++ [10]) 0) u) (rest := [a]) hpr [Nm.nDir, a] (by simp) (by simp) hA ⟨#[]⟩ 85 (fun _ _ => by kernel_rfl) (fun u2 a2 n c hB2 hS2 _ => parted_opt hS2 hB2.size (by decide) (by simp [Op.tot]; omega) (by simp) hP) (fun tk lv ov w1 h1 h4 _ ht1 hS1 hB1 => ?_)
  exact dir_do hp a hc0 (by rw [hfl]; simp) hl (by omega) h1 h4 ht1 hS1 hB1
/-- A utility that makes no call. -/
theorem run_quiet (av : Value) (nm : ByteArray) (sa : List ByteArray) (fd st : Nat) (m : Int) (w : World) (hm : w.cell? ⟨0, 0, none⟩ = some (.int .i64 m)) (hS : Op.StrsAt w av (nm :: sa)) (hn : sa.length ≤ 1000) (hsz : nm.size ≤ 4194304) (hf : utF nm = some (utN fd true)) (hcf : ∀ (z : Array Value) (u : World), (callFunc fd z).run Tryz.prog u = .ok (.enter fd z) u)
    (hdo : ∀ tk p lv ov w1, TkN w1 tk p lv ov 0 false 1 false → Calls Tryz.prog fd #[ptr tk] w1 fun e w2 => (∃ v, e = .returned v) ∧ w2.cell? ⟨tk, 3, none⟩ = some (.int .i64 (st : Int)) ∧ Turn [tk] w1 w2) :
    Calls Tryz.prog 20 #[Nm.jobN av] w (Nm.RunN w ⟨[], [], st⟩) := by
  refine nrun_g av (nm :: sa) _ w hS (fun W hB => ?_)
  have hmW : W.cell? ⟨0, 0, none⟩ = some (.int .i64 m) := (hB.cell (p := ⟨0, 0, none⟩) (World.block_lt_of_cell? _ _ hm)).trans hm
  have hlm : (nm :: sa).length ≤ 1048576 := by simp; omega
  refine (run_z (st := (st : Int)) pnew_says av (.slice none 0 0) (.slice none 0 0) (.slice none 0 0) 0 [] (nm :: sa) [] [] 3 9 9 0 m 30 W hmW (hS.below hB) (.inl ⟨rfl, rfl⟩) (.inl ⟨rfl, rfl⟩) ⟨none, 0, rfl, Nat.le_refl _, by simp, .inl ⟨rfl, rfl, rfl⟩⟩ (by simp) hlm (by simp) (by simp) (by simp) (by decide) (by decide) (by decide) (by decide) (by decide) (by simp [Mild]) (fun _ _ => by kernel_rfl) (fun G u rv hR _ _ _ => nstart_z (fun v m hp hA => ?_) hf hsz hlm hR)).mono (fun e w' h => ?_)
  · refine umain_n (P := fun e u' => e = .returned (.int .i64 (st : Int)) ∧ Turn [] v u') (rest := sa) hp (nm :: sa) (by simp) hlm hA ⟨#[]⟩ fd hcf (fun u2 a n c _ hS2 hb2 => parted_plain hS2 hb2) (fun tk lv ov w1 h1 h4 _ ht1 hS1 hB1 => ?_)
    refine (hdo tk _ _ ov w1 ht1).mono ?_
    rintro e w2 ⟨⟨v', rfl⟩, h3, hT⟩
    refine .inr ⟨v', _, rfl, h3, rfl, ?_⟩
    exact ⟨hT.os.trans hB1.os, hT.tape.trans hB1.tape, hT.output.trans hB1.output, Nat.le_trans hB1.size hT.size, fun b hb _ => (hT.block b (Nat.lt_of_lt_of_le hb hB1.size) (by simp; omega)).trans (hB1.block b hb)⟩
  · obtain ⟨ov, ev, rfl, h1, h2, hB2⟩ := h
    exact ⟨ov, ev, 0, 0, 0, rfl, h1, h2, hB2⟩
theorem run_true (av : Value) (sa : List ByteArray) (m : Int) (w : World) (hm : w.cell? ⟨0, 0, none⟩ = some (.int .i64 m)) (hS : Op.StrsAt w av (Nm.nTrue :: sa)) (hn : sa.length ≤ 1000) : Calls Tryz.prog 20 #[Nm.jobN av] w (Nm.RunN w ⟨[], [], 0⟩) :=
  run_quiet av Nm.nTrue sa 89 0 m w hm hS hn (by decide) rfl (fun _ _ => by kernel_rfl) (fun tk p lv ov w1 ht => (succeeds_c (tk := tk)).mono fun e w2 ⟨h1, h2⟩ => ⟨h1, by rw [h2]; exact h_cell ht 3 rfl, by rw [h2]; exact Turn.refl _ _⟩)
theorem run_false (av : Value) (sa : List ByteArray) (m : Int) (w : World) (hm : w.cell? ⟨0, 0, none⟩ = some (.int .i64 m)) (hS : Op.StrsAt w av (Nm.nFalse :: sa)) (hn : sa.length ≤ 1000) : Calls Tryz.prog 20 #[Nm.jobN av] w (Nm.RunN w ⟨[], [], 1⟩) :=
  run_quiet av Nm.nFalse sa 87 1 m w hm hS hn (by decide) rfl (fun _ _ => by kernel_rfl) (fun tk p lv ov w1 ht => (fails_c ht).mono fun e w2 ⟨h1, h2⟩ => ⟨h1, by rw [h2]; exact h_cell (h_set ht 3 (.int .i64 1)) 3 rfl, by rw [h2]; exact Turn.set _ _ _ _ (by simp)⟩)
end Go.Proofs.YteimilnecahifaaGreatDoor

namespace Go.Proofs.YteimilnecahifaaGreatDoor.Nm
open Go.Proofs.YteimilnecahifaaGreatDoor Go.Proofs.YteimilnecahifaaGreatDoor.Op
open Go.RowKit

/-- What is known of the variables. -/
structure AmG (W : World) : Prop where
  ml : ∃ m, W.cell? ⟨0, 0, none⟩ = some (.int .i64 m)
  wd : W.cell? ⟨6, 25, none⟩ = some (.string (bz notNum))
  wt : ∃ cs fz, W.heap[6]? = some (.cells cs 320 fz)
  gl : GlT W
  tab : TabD W
  er : ErS W
theorem AmG.keep (w w' : World) (h : AmG w) (hB : Below w.heap.size w w') : AmG w' := by
  obtain ⟨m, hm⟩ := h.ml
  obtain ⟨cs, fz, hw⟩ := h.wt
  obtain ⟨⟨c1, f1, h1⟩, ⟨c2, f2, h2⟩, ⟨c3, f3, h3⟩⟩ := h.gl
  exact ⟨⟨m, (hB.cell (p := ⟨0, 0, none⟩) (World.block_lt_of_cell? _ _ hm)).trans hm⟩, (hB.cell (p := ⟨6, 25, none⟩) (World.block_lt_of_cell? _ _ h.wd)).trans h.wd, ⟨cs, fz, (hB.block _ (h_lt hw)).trans hw⟩, ⟨⟨c1, f1, (hB.block _ (h_lt h1)).trans h1⟩, ⟨c2, f2, (hB.block _ (h_lt h2)).trans h2⟩, ⟨c3, f3, (hB.block _ (h_lt h3)).trans h3⟩⟩, h.tab.keep hB, h.er.keep hB⟩
theorem run_printf {av : Value} {f : ByteArray} {args : List ByteArray} {l0 : List Pc} {TO : List UInt8} {Bd : List ByteArray} {w : World} (hAm : AmG w) (hS : StrsAt w av (nPrintf :: f :: args)) (hP : PrfP f args l0 TO Bd) (hn : args.length ≤ 900) (hsz : ∀ a ∈ args, a.size ≤ 2097152) (htot : tot (f :: args) ≤ 2097152) (hf0 : f ≠ dashes) (hf1 : f.data.toList.head? ≠ some 45) (h0 : TO ≠ []) (hto : TO.length ≤ 4194304) :
    Calls Tryz.prog 20 #[jobN av] w (RunN w ⟨TO, (Bd.map badLine).flatten, if Bd = [] then 0 else 1⟩) := by
  obtain ⟨m, hm⟩ := hAm.ml
  have hbl : (badLine (bz [120])).length = 24 := by decide
  obtain ⟨c0, hc0e⟩ : ∃ c0 : KCall, c0 = if Bd = [] then .write false TO else .write true (badLine xBad) := ⟨_, rfl⟩
  have hc0k : CallOk c0 := by
    rw [hc0e]
    split
    · exact ok_write _ _ h0 (by omega)
    · exact ok_write _ _ (fun e => by have h2 := congrArg List.length e; rw [show badLine xBad = badLine (bz [120]) from rfl, hbl] at h2; simp at h2) (by rw [show badLine xBad = badLine (bz [120]) from rfl, hbl]; omega)
  have hel : ((Bd.map badLine).flatten).length ≤ 1073741824 := by
    rcases hP.bd with e | e
    · rw [e]; simp
    · rw [e]; simp [hbl]
  refine run_gen av nPrintf (f :: args) ⟨TO, (Bd.map badLine).flatten, if Bd = [] then 0 else 1⟩ 88 false c0 m w hm hS (by simp; omega) (by decide) rfl hc0k ⟨by show TO.length ≤ _; omega, hel⟩ (fun W hB => ?_)
  have hAW := AmG.keep w W hAm hB
  intro E md u hp hmd hc0 hfl hlim hA hT hcl
  obtain ⟨held, peak, hpr⟩ := ps_prat hp
  obtain ⟨cw, fw, hwt⟩ := hAW.wt
  obtain ⟨⟨c1, f1, h1⟩, ⟨c2, f2, h2⟩, ⟨c3, f3, h3⟩⟩ := hAW.gl
  have k0 := hcl _ _ _ _ (by decide) hwt
  have k1 := hcl _ _ _ _ (by decide) h1
  have k2 := hcl _ _ _ _ (by decide) h2
  have k3 := hcl _ _ _ _ (by decide) h3
  have hgk : ∀ b ∈ gls, u.heap[b]? = W.heap[b]? := fun b hb => by
    simp only [gls, List.mem_cons, List.not_mem_nil, or_false] at hb
    rcases hb with rfl | rfl | rfl
    · exact k1.trans h1.symm
    · exact k2.trans h2.symm
    · exact k3.trans h3.symm
  have hwd : u.cell? ⟨6, 25, none⟩ = some (.string (bz notNum)) := (World.cell?_of_block (a := ⟨6, 25, none⟩) (k0.trans hwt.symm)).trans hAW.wd
  have e2 : ((if Bd = [] then 0 else 1 : Nat) : Int) = if Bd = [] then 0 else 1 := by split <;> rfl
  show Calls Tryz.prog _ _ u (UmOut E md [] (QP TO (Bd.map badLine).flatten ((if Bd = [] then 0 else 1 : Nat) : Int)) u)
  rw [e2]
  refine umain_n (P := UmOut E md [] (QP TO (Bd.map badLine).flatten (if Bd = [] then 0 else 1)) u) (rest := f :: args) hpr (nPrintf :: f :: args) (by simp) (by simp; omega) hA ⟨#[]⟩ 88 (fun _ _ => by kernel_rfl) (fun u2 a2 n c hB2 hS2 _ => parted_opt hS2 hB2.size (by decide) htot (by simp; omega) (parseS_stop _ _ _ _ hf0 (.inr hf1))) (fun tk lv ov w1 q1 q4 hog ht1 hS1 hB1 => ?_)
  obtain ⟨g, off, cap, rfl, hai, _⟩ := strs_cons hS1
  have hg := hog (by simp) g off _ _ rfl
  have hPN : PrfN E md u (f :: args) tk lv (.slice (some ⟨g, off, none⟩) (args.length + 1) cap) w1 g f args l0 TO Bd :=
    { ps := hp, tkn := ht1, arg := hA, wd := hwd, gl := ⟨⟨c1, f1, k1⟩, ⟨c2, f2, k2⟩, ⟨c3, f3, k3⟩⟩, tab := ⟨hAW.tab.kept hgk hT.size, hAW.er.kept hgk⟩,
      env := ⟨hp.since.size, fun b hb => by
        simp only [gls, List.mem_cons, List.not_mem_nil, or_false] at hb
        rcases hb with rfl | rfl | rfl | rfl
        · exact h_lt k0
        · exact h_lt k1
        · exact h_lt k2
        · exact h_lt k3, fun b e => (hA.lt b e).2, by rw [hfl]; simp, hP.bd, fun e => by rw [hc0, hc0e, e]; rfl, by simp; omega⟩,
      h1 := q1, bel := hB1, og := hg, ops := hai, rd := hP.rd, okf := hP.okf, cv := hP.cv, fz := hP.fz, ok := hP.ok, all := hP.all, len := by omega, siz := hsz, toz := hto, to0 := h0, c0 := fun e => by rw [hc0, hc0e, if_pos e] }
  exact printf_do hPN
end Go.Proofs.YteimilnecahifaaGreatDoor.Nm

namespace Go.Proofs.YteimilnecahifaaGreatDoor.Nm
open Go.Proofs.YteimilnecahifaaGreatDoor Go.Proofs.YteimilnecahifaaGreatDoor.Op
open Go.RowKit

theorem names_p (f : ByteArray) (args : List ByteArray) (h : f ≠ dashes) : namesS (nPrintf :: f :: args) = printfS f args := by
  rw [namesS, if_neg (by decide), if_neg (by decide), if_neg (by decide), if_neg (by decide), if_neg (by decide), if_pos rfl, printfA, behindD]
  rw [if_neg (by
    intro e
    simp only [List.head?_cons, Option.some.injEq] at e
    exact h e)]
theorem names_e (args : List ByteArray) : namesS (nEcho :: args) = some ⟨joinS args ++ [10], [], 0⟩ := by
  rw [namesS, if_pos rfl]
theorem join_tot : ∀ (l : List ByteArray), (joinS l).length ≤ tot l + l.length
  | [] => Nat.zero_le _
  | [a] => by rw [joinS, tot_cons]; show a.size ≤ _; omega
  | a :: b :: l => by
    have h := join_tot (b :: l)
    have e : a.data.toList.length = a.size := rfl
    rw [joinS, tot_cons a]
    simp only [List.length_append, List.length_cons] at h ⊢
    omega
theorem sizes_tot : ∀ {l : List ByteArray} {n : Nat}, tot l ≤ n → ∀ a ∈ l, a.size ≤ n
  | b :: l, n, h, a, ha => by
    rw [tot_cons] at h
    rcases List.mem_cons.1 ha with rfl | ha
    · omega
    · exact sizes_tot (n := n) (by omega) a ha
theorem each_len : ∀ (l : List ByteArray), ((l.map oneE).flatten).length = tot l + 3 * l.length
  | [] => rfl
  | a :: l => by
    rw [List.map_cons, List.flatten_cons, List.length_append, each_len l, tot_cons, List.length_cons, oneE, List.length_cons, List.length_append]
    show a.size + 2 + 1 + _ = _
    omega
theorem dg64 {n b : Nat} (hn : n ≤ 9223372036854775807) (hb : b = 8 ∨ b = 10 ∨ b = 16) : (dgB b n).length ≤ 64 := dgB_length b (by omega) 63 n (by omega)
/-- One argument of a number. -/
theorem run_num {av : Value} {f a : ByteArray} {l0 : List Pc} {TO : List UInt8} {r : Res} {w : World} (hAm : AmG w) (hS : StrsAt w av [nPrintf, f, a]) (hP : PrfP f [a] l0 TO []) (hp : printfS f [a] = some ⟨TO, [], 0⟩) (ha : a.size ≤ 100) (hf0 : f ≠ dashes) (hf1 : f.data.toList.head? ≠ some 45) (h0 : TO ≠ []) (hto : TO.length ≤ 100) (hr : namesS [nPrintf, f, a] = some r) : Calls Tryz.prog 20 #[jobN av] w (RunN w r) := by
  rw [names_p f [a] hf0, hp] at hr
  cases hr
  exact run_printf hAm hS hP (by simp) (fun b hb => by rw [List.mem_singleton.1 hb]; omega) (by have := hP.fz; simp [tot]; omega) hf0 hf1 h0 (by omega)
theorem says_n : SaysN AmG where
  keep := AmG.keep
  base := fun s t w _ hs _ => base_c s t w hs
  dir := fun s w _ hs => dir_c s w hs
  run := fun av sa r w hA hS hk hr => by
    obtain ⟨m, hm⟩ := hA.ml
    rcases hk.one with (rfl | rfl | rfl | rfl | rfl | rfl) | ⟨n, hn, rfl | rfl | rfl | rfl | ⟨k, k1, k2, rfl⟩⟩ | ⟨args, ha1, ha2, rfl | rfl⟩
    · rw [ex_A] at hr
      cases hr
      exact run_echo av [⟨#[45, 110]⟩, ⟨#[97]⟩] m w hm hS (by simp) (by decide)
    · rw [ex_B] at hr
      cases hr
      have h := run_base av ⟨#[47, 97, 47, 98, 46, 99]⟩ ⟨#[46, 99]⟩ m w hm hS (by decide) (by decide) (parseS_stop _ _ _ _ (by decide) (.inr (by decide))) (by decide +kernel)
      have e : baseS (⟨#[47, 97, 47, 98, 46, 99]⟩ : ByteArray).data.toList (⟨#[46, 99]⟩ : ByteArray).data.toList ++ [10] = [98, 10] := by decide +kernel
      rw [e] at h
      exact h
    · rw [ex_C] at hr
      cases hr
      have h := run_dir av ⟨#[47, 97, 47, 47, 98, 47]⟩ m w hm hS (by decide) (parseS_stop _ _ _ _ (by decide) (.inr (by decide))) (by decide +kernel)
      have e : dirS (⟨#[47, 97, 47, 47, 98, 47]⟩ : ByteArray).data.toList ++ [10] = [47, 97, 10] := by decide +kernel
      rw [e] at h
      exact h
    · rw [ex_D] at hr
      cases hr
      exact run_printf hA hS prf_G (by decide) (by decide) (by decide) (by decide) (by decide) (by decide) (by decide)
    · have e : namesS xF = some ⟨[], [], 1⟩ := res_of (by decide +kernel)
      rw [e] at hr
      cases hr
      exact run_false av [] m w hm hS (by simp)
    · have e : namesS xT = some ⟨[], [], 0⟩ := res_of (by decide +kernel)
      rw [e] at hr
      cases hr
      exact run_true av [⟨#[45, 120]⟩] m w hm hS (by simp)
    · exact run_num hA hS (prf_X n hn) (run_X n hn) (by rw [bz_size]; have := dg64 (b := 10) hn (.inr (.inl rfl)); omega) (by decide) (by decide) (dgB_ne 16 n (by omega)) (by have := dg64 (b := 16) hn (.inr (.inr rfl)); omega) hr
    · have h8 := dg64 (b := 8) hn (.inl rfl)
      exact run_num hA hS (prf_O n hn) (run_O n hn) (by rw [bz_size]; have := dg64 (b := 10) hn (.inr (.inl rfl)); omega) (by decide) (by decide) (by split <;> simp) (by split <;> simp; omega) hr
    · exact run_num hA hS (prf_D n hn) (run_D n hn) (by rw [bz_size]; have := dg64 (b := 16) hn (.inr (.inr rfl)); simp; omega) (by decide) (by decide) (dgB_ne 10 n (by omega)) (by have := dg64 (b := 10) hn (.inr (.inl rfl)); omega) hr
    · have h8 := dg64 (b := 8) hn (.inl rfl)
      exact run_num hA hS (prf_I n hn) (run_I n hn) (by rw [bz_size]; split <;> simp; omega) (by decide) (by decide) (dgB_ne 10 n (by omega)) (by have := dg64 (b := 10) hn (.inr (.inl rfl)); omega) hr
    · have hne : bz (fW k) ≠ dashes := fun e => by
        have h2 := congrArg (fun b : ByteArray => b.data.toList.head?) e
        simp only [bz_list, fW, List.head?_cons, dashes, Option.some.injEq] at h2
        exact absurd h2 (by decide)
      rw [names_p _ _ hne, run_W n k hn k1 k2] at hr
      cases hr
      have hd := dg64 (b := 10) hn (.inr (.inl rfl))
      have hz : (bz (dgB 10 n)).size ≤ 64 := by rw [bz_size]; exact hd
      have hP := prf_W n k hn k1 k2
      have hfz := hP.fz
      exact run_printf hA hS hP (by simp) (fun b hb => by simp only [List.mem_cons, List.not_mem_nil, or_false, or_self] at hb; rw [hb]; omega) (by simp [tot]; omega) hne (by rw [bz_list, fW]; simp) (by simp) (by simp [wantS, leftS, many]; omega)
    · rw [names_p fE args (by decide), run_E] at hr
      cases hr
      have hP := prf_E args
      refine run_printf hA hS hP (by omega) (fun b hb => by have := sizes_tot ha2 b hb; omega) (by rw [tot_cons]; have h9 : fE.size = 6 := rfl; omega) (by decide) (by decide) ?_ ?_
      · unfold eachS
        cases args with
        | nil => simp
        | cons a r => simp [oneE]
      · unfold eachS
        split
        · simp
        · rw [each_len]; omega
    · rw [names_e] at hr
      cases hr
      exact run_echo av args m w hm hS (by omega) (by have := join_tot args; omega)
end Go.Proofs.YteimilnecahifaaGreatDoor.Nm
