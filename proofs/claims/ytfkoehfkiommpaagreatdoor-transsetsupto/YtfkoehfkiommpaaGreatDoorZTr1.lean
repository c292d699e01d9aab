/- tr: what it makes ahead of its loops. -/
import Derived.Stop.RegionWithIn
import Derived.Test.YtfkoehfkiommpaaGreatDoorZSpec
import Derived.Test.YtfkoehfkiommpaaGreatDoorMSet
import Derived.Test.YtfkoehfkiommpaaGreatDoorZChg
namespace Go.Proofs.YtfkoehfkiommpaaGreatDoor
open Go.RowKit Go.Shelf Go.Maps
attribute [local go_sem] Oper.semAt_some

theorem taskRead_c (tv : Value) (W : World) (htv : ∃ b, tv = ptr b) : Calls Tryz.prog 146 #[tv, .slice none 0 0] W fun e W' => e = .returned (.func (.func 184) #[] #[ptr (W.heap.size + 1), ptr W.heap.size]) ∧ W' = (W.alloc (.cells #[tv] 235)).alloc (.cells #[.slice none 0 0] 31) := by
  have hmf : ∀ (fn : Fn) (first cap : Array Value) (w : World), (Instr.makeFunc fn first cap).run Tryz.prog w = .ok (.func fn first cap) w := fun _ _ _ _ => rfl
  obtain ⟨b, rfl⟩ := htv
  go_enter Tryz.func146, Tryz.ntmps146
  go_wp2
  go_ret
  exact ⟨rfl, rfl⟩
theorem store_fn_one (w : World) (f : Fn) (y z : Array Value) (t : Nat) : (store ⟨w.heap.size, 0, none⟩ (.func f y z)).run Tryz.prog (w.alloc (.cells #[.nilFunc] t)) = .ok () (w.alloc (.cells #[.func f y z] t)) := by
  have hn : (w.alloc (.cells #[.nilFunc] t)).heap[w.heap.size]? = some (.cells #[.nilFunc] t (0, 0)) := al_new _ _ rfl
  rw [store_fn f y z (h_cell hn 0 rfl) (h_fz hn 0)]
  simp [go_sem]
/-- A load of a whole array, in the fence. -/
theorem wpIn_load_arr {P : Program} {n : Nat} {o : Oper} {a : Act} {w : World} {K : Act → World → Prop} {Q : Exit → Act → World → Prop} (ty : TypeId) (x : Operand) (ho : o.op = .load ty x) (g : Nat) (cs : Array Value) (hx : a.eval x = .pointer (some ⟨g, 0, none⟩)) (t : TypeId) {fr : Nat × Nat} {d : TypeDesc}
    (hg : w.heap[g]? = some (.cells cs t fr)) (hu : P.underlying ty = some d) (ha : (match d with | .struct _ | .array _ _ => true | _ => false) = true) (hi : (P.info? ty).map (·.size) = some cs.size) (h : K (a.put o.dst (.agg cs)) w) : o.wpIn Fence.wide n P a w K Q := by
  have hrun : (o.semAt Fence.wide.round a.eval).run P w = .ok (.value (.agg cs)) w := by
    show (execOp a.eval o).run P w = _
    unfold execOp
    simp only [ho, hx, Instr.loadAt, Instr.sureAddr, Sem.run_bind, Sem.run_pure, Result.andThen_ok, run_loadVar_row w g t ty cs fr d hg hu ha hi]
  refine ⟨fun f hf => ?_, ?_⟩
  · simp [Oper.about, ho] at hf
  · rw [hrun, Oper.uponIn_value]
    exact h
theorem Tr.own_ge2' {W : World} {B : Nat} {v : Value} {l : List UInt8} (h : Tr.Row W B v l) : ∀ g, v.ownBlock = some g → B ≤ g := fun g e => Op.own_ge2 h g e
theorem Tr.own_sl {W : World} {B : Nat} {v : Value} {l : List UInt8} (h : Tr.Row W B v l) : ∃ a c, v = .slice a l.length c := Op.own_slice2 h
/-- What stands behind an input's turn. -/
structure TrO (md : Option Bool) (tk D : Nat) (M : List Nat) (Qf : Sx → Prop) (w : World) (md' : Option Bool) (s' : Sx) (W : World) : Prop where
  ne : md ≠ none
  md : md' = some false
  q : Qf s'
  c3 : W.cell? ⟨tk, 3, none⟩ = some (.int .i64 0)
  d : W.heap[D]? = some (.deferred (some []))
  kp : Kept M w W
theorem rt_def {D l : Nat} {x : Option (List Deferred)} {W W' : World} (hr : RecTurn l W W') (h : W.heap[D]? = some (.deferred x)) : W'.heap[D]? = some (.deferred x) := hr.turn.ob h (by
  obtain ⟨r, r', hl, rfl⟩ := hr
  intro e
  have e : D = l := by simpa using e
  rw [e, hl] at h
  cases h)
theorem TrO.rt {md md' : Option Bool} {tk D l : Nat} {M : List Nat} {Qf : Sx → Prop} {w : World} {s' : Sx} {W W' : World} (h : TrO md tk D M Qf w md' s' W) (hr : RecTurn l W W') (hl : l ∉ M) : TrO md tk D M Qf w md' s' W' :=
  ⟨h.ne, h.md, h.q, hr.cell h.c3, rt_def hr h.d, h.kp.trans ⟨[l], hr.turn, fun b hb e => hl (by simp at e; rw [← e]; exact hb)⟩⟩
/-- What tr owns while it reads. -/
structure TrW (p tk B cb D l : Nat) (fn : Value) (rc : Loop) (lv ov : Value) (W : World) : Prop where
  box : W.heap[B]? = some (.cells #[ptr tk] 235 (0, 0))
  fn : W.heap[cb]? = some (.cells #[fn] 171 (0, 0))
  tk : TkAt W tk p lv ov 0 true
  d : W.heap[D]? = some (.deferred (some []))
  lp : W.heap[l]? = some (.loop rc)
section
variable {p tk B cb D l l2 : Nat} {fn lv ov : Value} {rc : Loop} {W W' : World} {N S : List Nat}
theorem TrW.turn (h : TrW p tk B cb D l fn rc lv ov W) (hT : Turn S W W') (hS : ∀ b ∈ [B, cb, tk, D, l], b ∉ S) : TrW p tk B cb D l fn rc lv ov W' := by
  simp only [List.forall_mem_cons] at hS
  obtain ⟨h1, h2, h3, h4, h5, _⟩ := hS
  exact ⟨hT.ob h.box h1, hT.ob h.fn h2, hT.ob h.tk h3, hT.ob h.d h4, hT.ob h.lp h5⟩
theorem TrW.kept (h : TrW p tk B cb D l fn rc lv ov W) (hk : Kept N W W') (hN : ∀ b ∈ [B, cb, tk, D, l], b ∈ N) : TrW p tk B cb D l fn rc lv ov W' := by
  obtain ⟨S, hT, hS⟩ := hk
  exact h.turn hT (fun b hb => hS b (hN b hb))
theorem TrW.rt (h : TrW p tk B cb D l fn rc lv ov W) (hr : RecTurn l2 W W') (hl : l2 ≠ l) : TrW p tk B cb D l fn rc lv ov W' :=
  ⟨hr.ob h.box, hr.ob h.fn, hr.ob h.tk, rt_def hr h.d, hr.turn.ob h.lp (by simpa using fun e : l = l2 => hl e.symm)⟩
end
theorem inChunks_c (inb : Nat) (W : World) : Calls Tryz.prog 147 #[ptr inb] W fun e W' => e = .returned (.func (.func 187) #[] #[ptr W.heap.size]) ∧ W' = W.alloc (.cells #[ptr inb] 248) := by
  have hmf : ∀ (fn : Fn) (first cap : Array Value) (w : World), (Instr.makeFunc fn first cap).run Tryz.prog w = .ok (.func fn first cap) w := fun _ _ _ _ => rfl
  go_enter Tryz.func147, Tryz.ntmps147
  go_wp2
  go_ret
  exact ⟨rfl, rfl⟩
set_option maxRecDepth 100000 in
set_option maxHeartbeats 2000000 in
theorem changer_c (cs : Array Value) (W : World) : Calls Tryz.prog 145 #[.agg cs] W fun e W' => e = .returned (.func (.func 183) #[] #[ptr W.heap.size, ptr (W.heap.size + 1)]) ∧ W' = (W.alloc (.cells cs 241)).alloc (.cells #[.int .i64 (-1)] 3) := by
  have hmf : ∀ (fn : Fn) (first cap : Array Value) (w : World), (Instr.makeFunc fn first cap).run Tryz.prog w = .ok (.func fn first cap) w := fun _ _ _ _ => rfl
  go_enter Tryz.func145, Tryz.ntmps145
  go_wp2
  go_ret
  exact ⟨rfl, rfl⟩
end Go.Proofs.YtfkoehfkiommpaaGreatDoor
