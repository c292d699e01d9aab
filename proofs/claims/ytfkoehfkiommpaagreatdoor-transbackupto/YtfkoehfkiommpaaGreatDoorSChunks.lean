/- The statement 'for .. := range g', where rounds and iterator share what they turn, and either may be left by a panic. -/
import Derived.Test.YtfkoehfkiommpaaGreatDoorWpF
import Derived.Shelf.Abstract
import Derived.Shelf.RegionOpen
import Derived.OwnWalkIn
import Derived.TacticsInMore
import Derived.LoopNIn
import Derived.LoopIn
namespace Go.Proofs.YtfkoehfkiommpaaGreatDoor
open Go.RowKit

/-- The record of a loop, ready for a round. -/
def rec0 (f : FuncId) (tmps : Array Value) (ps : Array Tmp) (assign body : Code) (D : Nat) : Loop := { state := .ready, pending := none, fn := f, tmps := tmps, params := ps, assign := assign, body := body, defers := D }

/-- What a round answers to who calls yield. -/
def RndOut (l : Nat) (r : Loop) (Nxt : World → Prop) (Stp : Code → World → Prop) (Pan : List PanicEntry → World → Prop) (e : Ending) (W : World) : Prop :=
  (e = .returned (.bool true) ∧ W.heap[l]? = some (.loop r) ∧ Nxt W) ∨ (∃ c, e = .returned (.bool false) ∧ W.heap[l]? = some (.loop { r with state := .done, pending := some c }) ∧ Stp c W) ∨ (∃ ch, e = .panicked ch ∧ Pan ch W)

/-- What the iterator comes to. -/
def ItOut (l : Nat) (r : Loop) (Fin : World → Prop) (StpF : Code → World → Prop) (PanF : List PanicEntry → World → Prop) (e : Ending) (W : World) : Prop :=
  (∃ v, e = .returned v ∧ W.heap[l]? = some (.loop r) ∧ Fin W) ∨ (∃ v c, e = .returned v ∧ W.heap[l]? = some (.loop { r with state := .done, pending := some c }) ∧ StpF c W) ∨ (∃ ch, e = .panicked ch ∧ PanF ch W)

section
variable {P : Program} {f : FuncId} {ro : Option Nat} {Q : Exit → Act → World → Prop} {a : Act} {w : World}

theorem wpF_range {α : Type} {fn : Func} {g : Operand} {ps : Array Tmp} {assign body : Code} {gf : Nat} {lb : Array Value} {encs : α → Array Value} {l D : Nat} {mark : List Deferred} {W1 : World}
    {Pre : α → World → Prop} {Mid : α → Act → World → Prop} {Nxt : α → World → Prop} {Stp : Code → α → World → Prop} {Pan : List PanicEntry → World → Prop} {Fin : World → Prop} {StpF : Code → World → Prop} {PanF : List PanicEntry → World → Prop}
    (hf : P.funcs[f]? = some fn) (hg : a.eval g = .func (.func gf) #[] lb) (eg : ∀ args w, (callFunc gf args).run P w = .ok (.enter gf args) w) (hps : ∀ x, (encs x).size = ps.size)
    (he : (Instr.enterLoop f a.tmps ps assign body ro).run P w = .ok (l, mark) W1)
    (aMid : ∀ x a' W W', RecTurn l W W' → Mid x a' W → Mid x a' W') (aNxt : ∀ x W W', RecTurn l W W' → Nxt x W → Nxt x W') (aStp : ∀ c x W W', RecTurn l W W' → Stp c x W → Stp c x W')
    (hassign : ∀ x W, W.heap[l]? = some (.loop (rec0 f a.tmps ps assign body D)) → Pre x W → wpF P f (some l) assign (Exit.then (fun a' W' => W'.heap[l]? = some (.loop (rec0 f a.tmps ps assign body D)) ∧ Mid x a' W') (fun _ _ _ => False)) { tmps := (ps.zip (encs x)).foldl (fun t (p, v) => t.setIfInBounds p v) a.tmps, defers := [] } W)
    (hbody : ∀ x a' W, W.heap[l]? = some (.loop { rec0 f a.tmps ps assign body D with state := .busy }) → Mid x a' W → wpF P f (some l) body (rndPost l (rec0 f a.tmps ps assign body D) (Nxt x) (fun c => Stp c x) Pan) a' W)
    (hiter : (∀ x W, W.heap[l]? = some (.loop (rec0 f a.tmps ps assign body D)) → Pre x W → YieldAt Fence.wide 0 P l (encs x) W (RndOut l (rec0 f a.tmps ps assign body D) (Nxt x) (fun c => Stp c x) Pan)) →
      Calls P gf (#[.func (.yield l) #[] #[]] ++ lb) W1 (ItOut l (rec0 f a.tmps ps assign body D) Fin StpF PanF))
    (hdone : ∀ W W', RecTurn l W W' → Fin W → Q .normal { a with defers := mark ++ a.defers } W')
    (hstop : ∀ c W W', RecTurn l W W' → StpF c W → wpF P f ro c Q { a with defers := mark ++ a.defers } W')
    (hpan : ∀ ch W, PanF ch W → Q (.panic ch) { a with defers := mark ++ a.defers } W) :
    wpF P f ro (Code.rangeFunc g ps assign body) Q a w := by
  intro b k cs hro hfn hk
  have hcall := callsIn_wide (n := 0).2 (hiter (fun x W hl hp => by
    have hy := run_yield (P := P) (args := encs x) hl (by simpa [rec0] using hps x)
    refine ⟨f, _, assign, body, hy, ?_⟩
    exact round_of_wpF hf rfl rfl (aMid x) (aNxt x) (fun c => aStp c x) (hassign x W hl hp) (hbody x)))
  have hres : (resolve a.eval (rangeCall g l) 0).run P W1 = .ok { target := .fn (.func gf) lb, args := #[.func (.yield l) #[] #[]] } W1 := by
    simp only [resolve, hg]
    simp [go_sem]
  have hinv : (invoke (.fn (.func gf) lb) #[.func (.yield l) #[] #[]]).run P W1 = .ok (.enter gf (#[.func (.yield l) #[] #[]] ++ lb)) W1 := by
    simp [invoke, go_sem, eg]
  have he' : (Instr.enterLoop b.fn a.tmps ps assign body b.roundOf).run P w = .ok (l, mark) W1 := by rw [hfn, hro]; exact he
  have henter := stepR_rangeFunc (P := P) (b := b) (a := a) (k := k) (cs := cs) (w := w) he' hres hinv
  have h0 : (lone (b.atR a (.code (.rangeFunc g ps assign body) :: k)) cs w).fenced P Fence.wide := fenced_wide P _
  obtain ⟨e, w₃, fr, hR, hsteps, _, hleave⟩ := hcall.2 (b.atR { a with defers := mark ++ a.defers } (.inRangeFunc l :: k) :: cs) (room_wide _)
  have back : ∀ v (jump : Option Code) w₄, e = .returned v → (Instr.endLoop l).run P w₃ = .ok jump w₄ → StepsIn (Machine.fenced P Fence.wide) P (lone (b.atR a (.code (.rangeFunc g ps assign body) :: k)) cs w) (lone (b.atR { a with defers := mark ++ a.defers } ((jump.map Item.code).toList ++ k)) cs w₄) := by
    intro v jump w₄ hev hend
    subst hev
    refine .head h0 henter (StepsIn.trans hsteps (.head (fenced_wide P _) ?_ (.one (fenced_wide P _) (stepR_endRangeFunc hend))))
    rw [← finish_atR_inRangeFunc l v]; exact step_leave_returned hleave
  rcases hR with ⟨v, rfl, hl, hF⟩ | ⟨v, c, rfl, hl, hS⟩ | ⟨ch, rfl, hP⟩
  · have hend := run_endLoop (P := P) hl (by simp [rec0])
    exact ⟨.normal, _, _, hdone _ _ ⟨_, _, hl, rfl⟩ hF, back v none _ rfl hend⟩
  · have hend := run_endLoop (P := P) hl (by simp)
    obtain ⟨e', a'', w₅, hq, harr⟩ := hstop c _ _ ⟨_, _, hl, rfl⟩ hS b k cs hro hfn hk
    exact ⟨e', a'', w₅, hq, .of_steps (back v (some c) _ rfl hend) harr⟩
  · refine ⟨.panic ch, _, w₃, hpan ch w₃ hP, .inRangeFunc l :: k, .head h0 henter (StepsIn.trans hsteps (.one (fenced_wide P _) ?_))⟩
    rw [← Frame.raise_atR]; exact step_leave_panicked hleave

/-- What an outermost loop lays. -/
theorem enter_outer (f : FuncId) (tmps : Array Value) (ps : Array Tmp) (assign body : Code) (w : World) :
    (Instr.enterLoop f tmps ps assign body none).run P w = .ok (w.heap.size + 1, [{ target := .collected w.heap.size, args := #[] }]) ((w.alloc (.deferred (some []))).alloc (.loop (rec0 f tmps ps assign body w.heap.size))) := run_enterLoop_outer f tmps ps assign body
theorem enter_inner {l₀ : Nat} {r₀ : Loop} (h : w.heap[l₀]? = some (.loop r₀)) (f : FuncId) (tmps : Array Value) (ps : Array Tmp) (assign body : Code) :
    (Instr.enterLoop f tmps ps assign body (some l₀)).run P w = .ok (w.heap.size, []) (w.alloc (.loop (rec0 f tmps ps assign body r₀.defers))) := run_enterLoop_inner h f tmps ps assign body
end
end Go.Proofs.YtfkoehfkiommpaaGreatDoor

namespace Go.Proofs.YtfkoehfkiommpaaGreatDoor
open Go.RowKit Go.Shelf Go.Maps
attribute [local go_sem] Oper.semAt_some

theorem yield_any {P : Program} {l : Nat} {args : Array Value} {W : World} {R : Ending → World → Prop} (m : Nat) (h : YieldAt Fence.wide 0 P l args W R) : YieldAt Fence.wide m P l args W R := by
  obtain ⟨fn, tmps, assign, body, h1, h2, h3⟩ := h
  exact ⟨fn, tmps, assign, body, h1, h2, fun c cs _ => h3 c cs (room_wide _)⟩
/-- What a body leaves behind an input's turn. -/
def TurnEnd (E : Ev) (tk : Nat) (M : List Nat) (inb r : Nat) (U : Option Bool → Sx → Int → List UInt8 → World → Prop) (W : World) : Prop :=
  ∃ md' s' av ah last feed ended failed, PS E md' W s' (rdL r av ++ (inb :: tk :: M)) ∧ RdI E W r av ah last feed ended (inb :: tk :: M) ∧ InAt W inb s_dash tk (ptr r) failed ∧ W.cell? ⟨tk, 0, none⟩ = some (ptr E.G.p) ∧ U md' s' last ah W
/-- What is left when it is closed. -/
def TurnFin (E : Ev) (tk : Nat) (M : List Nat) (U : Option Bool → Sx → World → Prop) (W : World) : Prop := ∃ md' s', PS E md' W s' (tk :: M) ∧ U md' s' W
/-- An input, as it is handed to the body. -/
structure TurnPre (E : Ev) (md : Option Bool) (s : Sx) (tk : Nat) (opts operands : Value) (status : Int) (M : List Nat) (w : World) (inb r : Nat) (W : World) : Prop where
  ps : PS E md W s (rdL r (.slice none 0 0) ++ (inb :: tk :: M))
  rd : RdI E W r (.slice none 0 0) [] 0 false false (inb :: tk :: M)
  inp : InAt W inb s_dash tk (ptr r) false
  tk : TkAt W tk E.G.p opts operands status true
  kp : Kept M w W
section
variable {E : Ev} {md : Option Bool} {w : World} {s : Sx} {M : List Nat} {tk : Nat} {opts operands : Value} {status : Int} {l : Nat} {rc : Loop}
set_option maxRecDepth 100000 in
set_option maxHeartbeats 4000000 in
theorem turn_c {U U' : Option Bool → Sx → Int → List UInt8 → World → Prop} {V V' : Option Bool → Sx → World → Prop} {Pan : List PanicEntry → World → Prop} {K : Code → Prop} (hp : PS E md w s (tk :: M)) (ht : TkAt w tk E.G.p opts operands status false) (htM : tk ∉ M) (hW0 : E.W0.heap.size ≤ tk) (hl : l ∈ M) (hlr : w.heap[l]? = some (.loop rc))
    (hV : ∀ md' s' last ah W W', U md' s' last ah W → Kept (tk :: M) W W' → V md' ((s'.drops last).drops ah.length) W') (hV' : ∀ md' s' last ah W W', U' md' s' last ah W → Kept (tk :: M) W W' → V' md' ((s'.drops last).drops ah.length) W')
    (hY : ∀ W inb r, TurnPre E md s tk opts operands status M w inb r W → W.heap[l]? = some (.loop rc) → YieldAt Fence.wide 0 Tryz.prog l #[ptr inb] W (RndOut l rc (TurnEnd E tk M inb r U) (fun c W' => K c ∧ TurnEnd E tk M inb r U' W') Pan)) :
    Calls Tryz.prog 186 #[ptr tk, .string s_dash, .func (.yield l) #[] #[]] w (fun e W' =>
      (e = .returned (.bool true) ∧ W'.heap[l]? = some (.loop rc) ∧ TurnFin E tk M V W') ∨ (∃ c, e = .returned (.bool false) ∧ W'.heap[l]? = some (.loop { rc with state := .done, pending := some c }) ∧ K c ∧ TurnFin E tk M V' W') ∨ (∃ ch, e = .panicked ch ∧ Pan ch W')) := by
  have hh := heard_c ht
  have hTm : Turn [tk] w (w.setCell ⟨tk, 4, none⟩ (.bool true)) := Turn.set _ _ _ _ (by simp)
  have ht1 : TkAt (w.setCell ⟨tk, 4, none⟩ (.bool true)) tk E.G.p opts operands status true := by simpa using h_set ht 4 (.bool true)
  have hp1 : PS E md (w.setCell ⟨tk, 4, none⟩ (.bool true)) s (tk :: M) := hp.own hTm (fun b hb => by
    have e : b = tk := by simpa using hb
    rw [e]
    exact ⟨hW0, .inl (by simp)⟩) (fun b hb => .inl hb)
  have hk1 : Kept M w (w.setCell ⟨tk, 4, none⟩ (.bool true)) := ⟨[tk], hTm, fun b hb e => htM (by simp at e; rw [← e]; exact hb)⟩
  have hl1 : (w.setCell ⟨tk, 4, none⟩ (.bool true)).heap[l]? = some (.loop rc) := hTm.ob hlr (by simp; exact fun e => htM (e ▸ hl))
  have hop := topen_c hp1 ht1
  obtain ⟨_, _, _, _, m1, _⟩ := hp.ex
  have hMl : ∀ b ∈ tk :: M, b < w.heap.size := fun b hb => (m1 b hb).1
  have hsz0 : (w.setCell ⟨tk, 4, none⟩ (.bool true)).heap.size = w.heap.size := by simp
  have hw0 := hp.since.size
  clear m1
  have HY2 : Hid (∀ w2 inb r, ((w.setCell ⟨tk, 4, none⟩ (.bool true)).heap.size ≤ inb ∧ PS E md w2 s (rdL r (.slice none 0 0) ++ (inb :: tk :: M)) ∧ RdI E w2 r (.slice none 0 0) [] 0 false false (inb :: tk :: M) ∧ InAt w2 inb s_dash tk (ptr r) false ∧ Kept (tk :: M) (w.setCell ⟨tk, 4, none⟩ (.bool true)) w2) → YieldAt Fence.wide 0 Tryz.prog l #[ptr inb] w2 (RndOut l rc (TurnEnd E tk M inb r U) (fun c W' => K c ∧ TurnEnd E tk M inb r U' W') Pan)) := fun w2 inb r ⟨_, hp2, hR2, hI2, hk2⟩ =>
    hY _ _ _ ⟨hp2, hR2, hI2, hk2.ob ht1 (by simp), hk1.trans (hk2.less (fun x hx => List.mem_cons_of_mem _ hx))⟩ (hk2.ob hl1 (by simp [hl]))
  have HZ0 := Lib.hid (And.intro hMl (And.intro hsz0 hw0))
  clear hp ht hTm ht1 hp1 hk1 hl1 hY hMl hsz0 hw0
  refine (callsIn_wide (n := 9)).1 ?_
  refine callsIn_of_wp Tryz.func186 rfl trivial ?_ rfl
  simp only [Tryz.ntmps186, List.size_toArray, List.length_cons, List.length_nil, Nat.reduceAdd, Nat.reduceSub, Array.replicate_succ, Array.replicate_zero, List.push_toArray, List.append_toArray, List.nil_append, List.cons_append]
  gi_wp2_with (first
    | (refine ⟨trivial, ?_⟩; gi_at_call 217; refine (callsIn_wide.2 hh).mono ?_; rintro e w1 ⟨rfl, hw1⟩; rw [hw1]; clear hw1)
    | (refine ⟨trivial, ?_⟩; gi_at_call 218; refine (callsIn_wide.2 hop).mono ?_; rintro e w2 ⟨inb, r, rfl, hin2, hp2, hR2, hI2, hk2⟩; have i4 : w2.cell? ⟨inb, 4, none⟩ = some (.bool false) := h_cell hI2 4 rfl; have HP2 := Lib.hid (And.intro hin2 (And.intro hp2 (And.intro hR2 (And.intro hI2 hk2)))); clear hin2 hp2 hR2 hI2 hk2; obtain ⟨fn, tmps, assign, body, hy, hR⟩ := yield_any 8 (HY2.out w2 inb r HP2.out)))
  have hit : inb ∉ tk :: M := fun hb => by
    have h1 := HZ0.out.1 inb hb
    have h2 := HP2.out.1
    rw [HZ0.out.2.1] at h2
    omega
  have hi0 : E.W0.heap.size ≤ inb := by
    have h2 := HP2.out.1
    rw [HZ0.out.2.1] at h2
    have := HZ0.out.2.2
    omega
  refine hR.mono ?_
  rintro e W4 (⟨rfl, hl4, md', s', av, ah, last, feed, ended, failed, hp4, hR4, hI4, ht4, hU⟩ | ⟨c, rfl, hl4, hK, md', s', av, ah, last, feed, ended, failed, hp4, hR4, hI4, ht4, hU⟩ | ⟨ch, rfl, hP⟩)
  · have hcl := tclose_c hp4 hR4 hI4 ht4 hi0 hit
    have HZ := Lib.hid (And.intro hl4 hU)
    clear hl4 hp4 hR4 hI4 ht4 hU hR hy
    gi_wp2_with (refine ⟨trivial, ?_⟩; gi_at_call 219; refine (callsIn_wide.2 hcl).mono ?_; rintro e W5 ⟨⟨v, rfl⟩, hp5, hk5⟩)
    go_ret
    obtain ⟨hl4, hU⟩ := HZ.out
    exact .inl ⟨rfl, hk5.ob hl4 (by simp [hl]), md', _, hp5, hV _ _ _ _ _ _ hU hk5⟩
  · have hcl := tclose_c hp4 hR4 hI4 ht4 hi0 hit
    have HZ := Lib.hid (And.intro hl4 (And.intro hK hU))
    clear hl4 hp4 hR4 hI4 ht4 hU hR hy hK
    gi_wp2_with (refine ⟨trivial, ?_⟩; gi_at_call 219; refine (callsIn_wide.2 hcl).mono ?_; rintro e W5 ⟨⟨v, rfl⟩, hp5, hk5⟩)
    go_ret
    obtain ⟨hl4, hK, hU⟩ := HZ.out
    exact .inr (.inl ⟨c, rfl, hk5.ob hl4 (by simp [hl]), hK, md', _, hp5, hV' _ _ _ _ _ _ hU hk5⟩)
  · exact ⟨rfl, .inr (.inr ⟨ch, rfl, hP⟩)⟩
end
end Go.Proofs.YtfkoehfkiommpaaGreatDoor

namespace Go.Proofs.YtfkoehfkiommpaaGreatDoor
open Go.RowKit Go.Shelf Go.Maps
attribute [local go_sem] Oper.semAt_some

theorem inputsFn_c (x : Option Addr) (c : Nat) (w : World) : Calls Tryz.prog 185 #[.slice x 0 c] w fun e w' => e = .returned (.slice (some ⟨w.heap.size, 0, none⟩) 1 1) ∧ w' = w.alloc (.cells #[.string ⟨#[45]⟩] 9) := by
  go_enter Tryz.func185, Tryz.ntmps185
  go_wp2
  go_ret
  exact ⟨rfl, rfl⟩
section
variable {E : Ev} {md : Option Bool} {w : World} {s : Sx} {M : List Nat} {tk Bo Bt : Nat} {opts operands : Value} {status : Int} {l : Nat} {rc : Loop}
set_option maxRecDepth 100000 in
set_option maxHeartbeats 4000000 in
theorem inputs_c {U U' : Option Bool → Sx → Int → List UInt8 → World → Prop} {V V' : Option Bool → Sx → World → Prop} {Pan : List PanicEntry → World → Prop} {K : Code → Prop} {x : Option Addr} {c : Nat} (hp : PS E md w s (tk :: M)) (ht : TkAt w tk E.G.p opts operands status false) (htM : tk ∉ M) (hW0 : E.W0.heap.size ≤ tk) (hl : l ∈ M) (hlr : w.heap[l]? = some (.loop rc))
    (hBo : w.heap[Bo]? = some (.cells #[.slice x 0 c] 31)) (hBt : w.cell? ⟨Bt, 0, none⟩ = some (ptr tk))
    (hV : ∀ md' s' last ah W W', U md' s' last ah W → Kept (tk :: M) W W' → V md' ((s'.drops last).drops ah.length) W') (hV' : ∀ md' s' last ah W W', U' md' s' last ah W → Kept (tk :: M) W W' → V' md' ((s'.drops last).drops ah.length) W')
    (hY : ∀ w1 W inb r, Turn [Bo] w w1 → TurnPre E md s tk opts operands status M w1 inb r W → W.heap[l]? = some (.loop rc) → YieldAt Fence.wide 0 Tryz.prog l #[ptr inb] W (RndOut l rc (TurnEnd E tk M inb r U) (fun c W' => K c ∧ TurnEnd E tk M inb r U' W') Pan)) :
    Calls Tryz.prog 184 #[.func (.yield l) #[] #[], ptr Bo, ptr Bt] w (ItOut l rc (TurnFin E tk M V) (fun c W' => K c ∧ TurnFin E tk M V' W') Pan) := by
  have c0 : w.cell? ⟨Bo, 0, none⟩ = some (.slice x 0 c) := h_cell hBo 0 rfl
  have hbt := World.block_lt_of_cell? _ _ hBt
  have hB : Below w.heap.size w (w.alloc (.cells #[.string s_dash] 9)) := (Below.refl _ w).alloc (Nat.le_refl _) _
  have hturn : Calls Tryz.prog 186 #[ptr tk, .string s_dash, .func (.yield l) #[] #[]] (w.alloc (.cells #[.string s_dash] 9)) _ :=
    turn_c (hp.own (N := tk :: M) (Turn.below (S := []) hB) (by simp) (fun b hb => .inl hb)) (al_old _ ht) htM hW0 hl (al_old _ hlr) hV hV' (fun W inb r h1 h2 => hY _ W inb r ((Turn.below (S := []) hB).mono (by simp)) h1 h2)
  have hin := inputsFn_c x c w
  have eT : (w.alloc (.cells #[.string s_dash] 9)).cell? ⟨Bt, 0, none⟩ = some (ptr tk) := (Turn.below (S := []) hB).cell hBt (by simp)
  have e9 : (w.alloc (.cells #[.string s_dash] 9)).cell? ⟨w.heap.size, 0, none⟩ = some (.string s_dash) := h_cell (al_new _ _ rfl) 0 rfl
  clear hp ht hV hV' hY hlr hBo hB hBt
  unfold s_dash at *
  refine (callsIn_wide (n := 9)).1 ?_
  refine callsIn_of_wp Tryz.func184 rfl trivial ?_ rfl
  simp only [Tryz.ntmps184, List.size_toArray, List.length_cons, List.length_nil, Nat.reduceAdd, Nat.reduceSub, Array.replicate_succ, Array.replicate_zero, List.push_toArray, List.append_toArray, List.nil_append, List.cons_append]
  gi_wp2_with (refine ⟨trivial, ?_⟩; gi_at_call 185; refine (callsIn_wide.2 hin).mono ?_; rintro e w1 ⟨rfl, hw1⟩; rw [hw1]; clear hw1 hin)
  generalize w.alloc (.cells #[.string ⟨#[45]⟩] 9) = w1 at e9 eT hturn ⊢
  clear c0
  gi_loopw [9] (fun i wr => (i = .int .i64 0 ∧ wr = w1) ∨ (i = .int .i64 1 ∧ Hid (wr.heap[l]? = some (.loop rc) ∧ TurnFin E tk M V wr))) (fun i _ => 1 - (intOf i).toNat)
  case atStart => exact .inl ⟨rfl, rfl⟩
  case round =>
    rcases hrel with ⟨rfl, rfl⟩ | ⟨rfl, HR⟩
    · gi_wp2_with (refine ⟨trivial, ?_⟩; gi_at_call 186; refine (callsIn_wide.2 hturn).mono ?_; rintro e W2 (⟨rfl, hl2, hF⟩ | ⟨c', rfl, hl2, hF⟩ | ⟨ch, rfl, hP⟩))
      · exact ⟨.inr ⟨rfl, ⟨hl2, hF⟩⟩, by decide⟩
      · refine bodyPost_ret (results_none rfl _ _ _) rfl ?_
        exact .inr (.inl ⟨_, c', rfl, hl2, hF⟩)
      · exact ⟨rfl, .inr (.inr ⟨ch, rfl, hP⟩)⟩
    · gi_wp2
      go_end0
      exact .inl ⟨_, rfl, HR.out.1, HR.out.2⟩
end
end Go.Proofs.YtfkoehfkiommpaaGreatDoor

namespace Go.Proofs.YtfkoehfkiommpaaGreatDoor
open Go.RowKit Go.Shelf Go.Maps
attribute [local go_sem] Oper.semAt_some

/-- A loop by a number that stands in no slot. -/
theorem wpIn_loop_g {F : Fence} {n : Nat} {P : Program} {c : Code} {Q : Exit → Act → World → Prop} {a : Act} {w : World} (Rel : Nat → Act → World → Prop) (h0 : ∃ g, Rel g a w)
    (round : ∀ g a w, Rel g a w → c.wpIn F n P (Exit.then (fun a' w' => ∃ g', g' < g ∧ Rel g' a' w') Q) a w) : (Code.loop c).wpIn F n P Q a w := by
  intro b k cs hro hb hr
  have key : ∀ j a w, Rel j a w → ∃ e a' w', Q e a' w' ∧ ArrivesIn (Machine.fenced P F) P (lone (b.atR a (.code c :: .inLoop c :: k)) cs w) b k cs e a' w' := by
    intro j
    induction j using Nat.strongRecOn with
    | _ j ih =>
      intro a w hI
      obtain ⟨e, a₁, w₁, hq, harr⟩ := round j a w hI b (.inLoop c :: k) cs hro hb hr
      cases e with
      | normal =>
        obtain ⟨g', hlt, hI₁⟩ := hq
        obtain ⟨e₂, a₂, w₂, hq₂, harr₂⟩ := ih g' hlt a₁ w₁ hI₁
        exact ⟨e₂, a₂, w₂, hq₂, .of_steps (StepsIn.trans harr (.one (fenced_calm hb hr rfl) stepR_inLoop)) harr₂⟩
      | exit id => exact ⟨_, a₁, w₁, hq, .pass (x := .inLoop c) rfl (fun _ _ => .inl (by simp)) harr⟩
      | goto l => exact ⟨_, a₁, w₁, hq, .pass (x := .inLoop c) rfl (fun _ _ => .inl (by simp)) harr⟩
      | ret => exact ⟨_, a₁, w₁, hq, .pass (x := .inLoop c) rfl (fun _ _ => .inl (by simp)) harr⟩
      | panic ch => exact ⟨_, a₁, w₁, hq, .pass (x := .inLoop c) rfl (fun _ _ => .inl (by simp)) harr⟩
      | outgrown => exact ⟨_, a₁, w₁, hq, .pass (x := .inLoop c) rfl (fun _ _ => .inl (by simp)) harr⟩
  obtain ⟨g, hg⟩ := h0
  obtain ⟨e, a', w', hq, harr⟩ := key g a w hg
  exact ⟨e, a', w', hq, .of_steps (.one (fenced_calm hb hr rfl) stepR_loop) harr⟩

/-- An input that is read by chunks. -/
structure ChS (E : Ev) (r inb Bi tk : Nat) (M : List Nat) (md : Option Bool) (s : Sx) (av : Value) (last : Int) (feed ended : Bool) (W : World) : Prop where
  ps : PS E md W s (rdL r av ++ (inb :: tk :: M))
  rd : RdI E W r av [] last feed ended (inb :: tk :: M)
  inp : InAt W inb s_dash tk (ptr r) false
  box : W.cell? ⟨Bi, 0, none⟩ = some (ptr inb)
theorem rd_neq (a : Addr) (w : World) : (binOp .neq 297 (.pointer (some a)) (.pointer none)).run Tryz.prog w = .ok (.bool true) w := by kernel_rfl
section
variable {E : Ev} {md : Option Bool} {w : World} {s : Sx} {M : List Nat} {tk r inb Bi : Nat} {av : Value} {last : Int} {feed : Bool} {l : Nat} {rc : Loop}
/-- What users of chunks owe: J between two chunks, JC with a chunk at hand. -/
structure ChOwe (E : Ev) (tk inb buf : Nat) (M : List Nat) (J : List UInt8 → Option Bool → Sx → Int → World → Prop) (JC : List UInt8 → List UInt8 → Sx → World → Prop) : Prop where
  fit : ∀ {pre md s last W}, J pre md s last W → s.k.rest.length ≤ 1048576 ∧ s.k.used ≤ E.G.faults.length ∧ s.steps + E.G.faults.length + 1 < 4611686018427387903 ∧ s.held ≤ 4611686018427387903 ∧ (md ≠ some false → E.c0 = .read buf)
  got : ∀ {pre md s last W bs s' W'}, md ≠ none → J pre md s last W → RdTo E.G.faults (s.drops last) s' buf bs → Kept (inb :: tk :: M) W W' → JC pre bs (s'.holds bs.length) W'
/-- What stands between two chunks. -/
def ChL (E : Ev) (r inb Bi tk : Nat) (M : List Nat) (md : Option Bool) (feed : Bool) (l : Nat) (rc : Loop) (J : List UInt8 → Option Bool → Sx → Int → World → Prop) (w : World) (g : Nat) (W : World) : Prop :=
  ∃ pre md' s' av' last', ChS E r inb Bi tk M md' s' av' last' feed false W ∧ J pre md' s' last' W ∧ W.heap[l]? = some (.loop rc) ∧ (md' ≠ some false → md' = md ∧ Kept (inb :: tk :: M) w W) ∧ s'.k.rest.length ≤ g
set_option maxRecDepth 100000 in
set_option maxHeartbeats 4000000 in
theorem chunks_c {J : List UInt8 → Option Bool → Sx → Int → World → Prop} {JC : List UInt8 → List UInt8 → Sx → World → Prop} {K : Code → Prop} {JS : Sx → Int → World → Prop} {Pan : List PanicEntry → World → Prop} {buf : Nat}
    (h : ChS E r inb Bi tk M md s av last feed false w) (hJ : J [] md s last w) (hO : ChOwe E tk inb buf M J JC) (hbuf : E.G.l1 = buf) (hm : 1 ≤ buf) (hl : l ∈ M) (hBi : Bi ∈ M) (hlr : w.heap[l]? = some (.loop rc))
    (hY : ∀ pre bs cv av' s2 W, bs ≠ [] → ChS E r inb Bi tk M (some false) s2 av' bs.length feed false W → ByAt W cv bs → (∀ b off k c, cv = .slice (some ⟨b, off, none⟩) k c → b ∈ rdL r av') → JC pre bs s2 W → W.heap[l]? = some (.loop rc) →
      YieldAt Fence.wide 0 Tryz.prog l #[cv] W (RndOut l rc (fun W' => ∃ s3 av3, s3.k.rest = s2.k.rest ∧ ChS E r inb Bi tk M (some false) s3 av3 bs.length feed false W' ∧ J (pre ++ bs) (some false) s3 bs.length W') (fun c W' => K c ∧ ∃ s3 av3 last3 ended3, ChS E r inb Bi tk M (some false) s3 av3 last3 feed ended3 W' ∧ JS s3 last3 W') Pan)) :
    Calls Tryz.prog 187 #[.func (.yield l) #[] #[], ptr Bi] w (ItOut l rc (fun W' => ∃ pre s3 av3, ChS E r inb Bi tk M (some false) s3 av3 0 feed true W' ∧ JC pre [] s3 W') (fun c W' => K c ∧ ∃ s3 av3 last3 ended3, ChS E r inb Bi tk M (some false) s3 av3 last3 feed ended3 W' ∧ JS s3 last3 W') (fun ch W' => Pan ch W' ∨ (ch = waitsP ∧ Waits md E (inb :: tk :: M) (.panicked waitsP) w W'))) := by
  have HH := Lib.hid (And.intro h (And.intro hJ hlr))
  clear h hJ hlr
  refine (callsIn_wide (n := 9)).1 ?_
  refine callsIn_of_wp Tryz.func187 rfl trivial ?_ rfl
  simp only [Tryz.ntmps187, List.size_toArray, List.length_cons, List.length_nil, Nat.reduceAdd, Nat.reduceSub, Array.replicate_succ, Array.replicate_zero, List.push_toArray, List.append_toArray, List.nil_append, List.cons_append]
  gi_wp2
  refine wpIn_loop_g (fun g a W => ∃ u2 u3 u4 u5 u6 u7 u8 u9 u10 u11 u12 u13 u14 u15 u16 u17 u18 u19 u20 u21 u22 u23 u24 u25 u26 u27 u28 u29 u30 u31, a = { tmps := #[.func (.yield l) #[] #[], ptr Bi, u2, u3, u4, u5, u6, u7, u8, u9, u10, u11, u12, u13, u14, u15, u16, u17, u18, u19, u20, u21, u22, u23, u24, u25, u26, u27, u28, u29, u30, u31], defers := [] } ∧ Hid (ChL E r inb Bi tk M md feed l rc J w g W)) ⟨s.k.rest.length, _, _, _, _, _, _, _, _, _, _, _, _, _, _, _, _, _, _, _, _, _, _, _, _, _, _, _, _, _, _, rfl, [], md, s, av, last, HH.out.1, HH.out.2.1, HH.out.2.2, fun _ => ⟨rfl, Kept.refl _ _⟩, Nat.le_refl _⟩ ?_
  clear HH
  rintro g _ W ⟨u2, u3, u4, u5, u6, u7, u8, u9, u10, u11, u12, u13, u14, u15, u16, u17, u18, u19, u20, u21, u22, u23, u24, u25, u26, u27, u28, u29, u30, u31, rfl, HL⟩
  obtain ⟨pre, md', s', av', last', hS, hJ, hlr, hmd, hg⟩ := HL.out
  have HM := Lib.hid hmd
  have HS := Lib.hid (And.intro hS (And.intro hJ (And.intro hlr hg)))
  clear HL
  obtain ⟨f1, f2, f3, f4, f5⟩ := hO.fit hJ
  have hch := chunk_c hS.ps hS.rd buf hbuf hm f1 f2 f3 f4 f5
  have i2 : W.cell? ⟨inb, 3, none⟩ = some (ptr r) := h_cell hS.inp 3 rfl
  have b0 := hS.box
  clear hS hJ hlr hmd hg f1 f2 f3 f4 f5
  have q1 := rd_neq
  gi_wp2_with fail
  refine ⟨trivial, ?_⟩
  gi_at_call 188
  refine (callsIn_wide.2 hch).mono ?_
  rintro e W2 (⟨hmd2, rfl, hW⟩ | ⟨hmd2, bs, cv, av2, s2, rfl, hto, hp2, hR2, hb2, hbl2, hk2⟩)
  · refine ⟨rfl, .inr (.inr ⟨waitsP, rfl, .inr ⟨rfl, ?_⟩⟩)⟩
    rw [← (HM.out (by rw [hmd2]; simp)).1]
    exact Waits.after (HM.out (by rw [hmd2]; simp)).2 ⟨hmd2, rfl, hW⟩
  obtain ⟨x, c, rfl⟩ := hb2.shape
  have d0 : W2.cell? ⟨Bi, 0, none⟩ = some (ptr inb) := hk2.cell b0 (by simp [hBi])
  have hfl := fails_c (ptr inb) W2
  by_cases h0 : bs = []
  · subst h0
    have HZ := Lib.hid (And.intro hto (And.intro hp2 (And.intro hR2 hk2)))
    clear hto hp2 hR2 hk2 hb2 hbl2 hch i2 b0 q1 hY
    gi_wp2_with (refine ⟨trivial, ?_⟩; gi_at_call 189; refine (callsIn_wide.2 hfl).mono ?_; rintro e w' ⟨rfl, hw'⟩; rw [hw']; clear hw')
    refine ⟨fun _ h => (by cases h), ?_⟩
    gi_wp2
    refine bodyPost_ret (results_none rfl _ _ _) rfl ?_
    obtain ⟨hto, hp2, hR2, hk2⟩ := HZ.out
    obtain ⟨hS, hJ, hlr, hg⟩ := HS.out
    exact .inl ⟨_, rfl, hk2.ob hlr (by simp [hl]), pre, _, av2, ⟨hp2, hR2, hk2.ob hS.inp (by simp), d0⟩, hO.got hmd2 hJ hto hk2⟩
  · obtain ⟨hS, hJ, hlr, hg⟩ := HS.out
    have he : bs.isEmpty = false := by cases bs <;> simp_all
    rw [he] at hR2
    have hlen : ¬ ((bs.length : Nat) : Int) = 0 := by have := List.length_pos_iff.2 h0; omega
    have hlb : (((bs.length : Nat) : Int) == 0) = false := by simpa using hlen
    obtain ⟨fn, tmps, assign, body, hy, hR⟩ := yield_any 8 (hY pre bs _ av2 _ W2 h0 ⟨hp2, hR2, hk2.ob hS.inp (by simp), d0⟩ hb2 hbl2 (hO.got hmd2 hJ hto hk2) (hk2.ob hlr (by simp [hl])))
    have hless : (s2.holds bs.length).k.rest.length < g := by
      obtain ⟨u, e, _⟩ := hto.k
      have e2 : (s2.holds bs.length).k.rest = s'.k.rest.drop bs.length := by show s2.k.rest = _; rw [e]; rfl
      have := List.length_pos_iff.2 h0
      have h3 : bs.length ≤ s'.k.rest.length := by
        have h4 := hto.cut
        rw [h4, List.length_take]
        exact Nat.min_le_right _ _
      rw [e2, List.length_drop]
      omega
    clear hS hJ hlr hg hto hp2 hR2 hk2 hb2 hbl2 hch i2 b0 q1 hY HS HM he
    gi_wp2_with (refine ⟨trivial, ?_⟩; gi_at_call 189; refine (callsIn_wide.2 hfl).mono ?_; rintro e w' ⟨rfl, hw'⟩; rw [hw']; clear hw')
    refine hR.mono ?_
    rintro e W3 (⟨rfl, hl3, s3, av3, er, hS3, hJ3⟩ | ⟨c', rfl, hl3, hX⟩ | ⟨ch, rfl, hP⟩)
    · gi_wp2
      exact ⟨_, hless, _, _, _, _, _, _, _, _, _, _, _, _, _, _, _, _, _, _, _, _, _, _, _, _, _, _, _, _, _, _, rfl, pre ++ bs, some false, s3, av3, _, hS3, hJ3, hl3, fun e => absurd rfl e, by rw [er]; exact Nat.le_refl _⟩
    · gi_wp2
      refine bodyPost_ret (results_none rfl _ _ _) rfl ?_
      exact .inr (.inl ⟨_, c', rfl, hl3, hX⟩)
    · exact ⟨rfl, .inr (.inr ⟨ch, rfl, .inl hP⟩)⟩
end
end Go.Proofs.YtfkoehfkiommpaaGreatDoor
