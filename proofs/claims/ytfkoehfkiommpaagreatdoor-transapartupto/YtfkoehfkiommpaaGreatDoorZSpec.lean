/- Loops over a task's input and over its chunks, in a walk of whoever ranges over them. -/
import Derived.Test.YtfkoehfkiommpaaGreatDoorSChunks
import Derived.Test.YtfkoehfkiommpaaGreatDoorYSame
namespace Go.Proofs.YtfkoehfkiommpaaGreatDoor
open Go.RowKit Go.Shelf Go.Maps

theorem RecTurn.turn {l : Nat} {W W' : World} (h : RecTurn l W W') : Turn [l] W W' := by
  obtain ⟨r, r', hl, rfl⟩ := h
  refine ⟨rfl, rfl, rfl, by simp [World.putObj], fun b hb hn => ?_⟩
  exact World.putObj_heap_other (by simp at hn; omega)
theorem RecTurn.cell {l : Nat} {W W' : World} {a : Addr} {v : Value} (h : RecTurn l W W') (hc : W.cell? a = some v) : W'.cell? a = some v := by
  refine h.turn.cell hc ?_
  obtain ⟨r, r', hl, rfl⟩ := h
  intro e
  have e : a.block = l := by simpa using e
  rw [World.cell?, e, hl] at hc
  cases hc
theorem RecTurn.ob {l b : Nat} {W W' : World} {cs : Array Value} {t : TypeId} (h : RecTurn l W W') (ho : W.heap[b]? = some (.cells cs t (0, 0))) : W'.heap[b]? = some (.cells cs t (0, 0)) := by
  refine h.turn.ob ho ?_
  obtain ⟨r, r', hl, rfl⟩ := h
  intro e
  have e : b = l := by simpa using e
  rw [e, hl] at ho
  cases ho
theorem zip_one (tm : Array Value) (t : Tmp) (v : Value) : (#[t].zip #[v]).foldl (fun t (p, v) => t.setIfInBounds p v) tm = tm.setIfInBounds t v := by
  simp [Array.zip]
theorem cf_chunks (z : Array Value) (u : World) : (callFunc 187 z).run Tryz.prog u = .ok (.enter 187 z) u := by kernel_rfl
theorem cf_inputs (z : Array Value) (u : World) : (callFunc 184 z).run Tryz.prog u = .ok (.enter 184 z) u := by kernel_rfl

section
variable {E : Ev} {md : Option Bool} {w W W' : World} {s : Sx} {M : List Nat} {tk r inb Bi Bo Bt l : Nat} {av : Value} {ah : List UInt8} {last : Int} {feed ended : Bool}
theorem PS.rt (h : PS E md W s M) (hr : RecTurn l W W') (hl : l ∈ M) (hl0 : E.W0.heap.size ≤ l) : PS E md W' s M :=
  h.own hr.turn (fun b hb => by
    have e : b = l := by simpa using hb
    rw [e]
    exact ⟨hl0, .inl hl⟩) (fun b hb => .inl hb)
theorem RdI.rt (h : RdI E W r av ah last feed ended M) (hr : RecTurn l W W') (hl : l ∈ M) : RdI E W' r av ah last feed ended M :=
  ⟨hr.ob h.cs, h.ah.turn hr.turn (fun g hg e => (h.dis l hl).2 (by simp at e; rw [← e]; exact hg)), h.ne, h.dis, h.new, h.last0⟩
theorem ChS.rt (h : ChS E r inb Bi tk M md s av last feed ended W) (hr : RecTurn l W W') (hl : l ∈ M) (hl0 : E.W0.heap.size ≤ l) : ChS E r inb Bi tk M md s av last feed ended W' :=
  ⟨h.ps.rt hr (by simp [hl]) hl0, h.rd.rt hr (by simp [hl]), hr.ob h.inp, hr.cell h.box⟩
theorem ByAt.rt {v : Value} {bs : List UInt8} (h : ByAt W v bs) (hr : RecTurn l W W') : ByAt W' v bs := by
  rcases h with h | ⟨b, off, cap, h1, h2, h3, h4⟩
  · exact .inl h
  · exact .inr ⟨b, off, cap, h1, h2, Nat.lt_of_lt_of_le h3 hr.turn.size, fun j hj => hr.cell (h4 j hj)⟩
end
section
variable {E : Ev} {md : Option Bool} {w W1 : World} {s : Sx} {M : List Nat} {tk r inb Bi Bo Bt l D buf : Nat} {av : Value} {last : Int} {feed : Bool} {f : FuncId} {fn : Func} {ro : Option Nat} {Q : Exit → Act → World → Prop} {a : Act} {g : Operand} {t : Tmp} {assign body : Code} {mark : List Deferred}
/-- Behind a round that goes on. -/
def ChNxt (E : Ev) (r inb Bi tk : Nat) (M : List Nat) (feed : Bool) (J : List UInt8 → Option Bool → Sx → Int → World → Prop) (pre bs : List UInt8) (s2 : Sx) (W' : World) : Prop :=
  ∃ s3 av3, s3.k.rest = s2.k.rest ∧ ChS E r inb Bi tk M (some false) s3 av3 bs.length feed false W' ∧ J (pre ++ bs) (some false) s3 bs.length W'
/-- Behind one that stops. -/
def ChStp (E : Ev) (r inb Bi tk : Nat) (M : List Nat) (feed : Bool) (JS : Sx → Int → World → Prop) (W' : World) : Prop :=
  ∃ s3 av3 last3 ended3, ChS E r inb Bi tk M (some false) s3 av3 last3 feed ended3 W' ∧ JS s3 last3 W'
/-- 'for b := range in.Chunks()'. -/
theorem range_chunks {J : List UInt8 → Option Bool → Sx → Int → World → Prop} {JC : List UInt8 → List UInt8 → Sx → World → Prop} {K : Code → Prop} {JS : Sx → Int → World → Prop} {Pan : List PanicEntry → World → Prop} {Mid : Value → Act → Prop}
    (hf : Tryz.prog.funcs[f]? = some fn) (hg : a.eval g = .func (.func 187) #[] #[ptr Bi]) (he : (Instr.enterLoop f a.tmps #[t] assign body ro).run Tryz.prog w = .ok (l, mark) W1) (hlr : W1.heap[l]? = some (.loop (rec0 f a.tmps #[t] assign body D)))
    (h : ChS E r inb Bi tk M md s av last feed false W1) (hJ : J [] md s last W1) (hO : ChOwe E tk inb buf M J JC) (hbuf : E.G.l1 = buf) (hm : 1 ≤ buf) (hl : l ∈ M) (hl0 : E.W0.heap.size ≤ l) (hBi : Bi ∈ M)
    (rJ : ∀ {pre md s last W W'}, RecTurn l W W' → J pre md s last W → J pre md s last W') (rJC : ∀ {pre bs s W W'}, RecTurn l W W' → JC pre bs s W → JC pre bs s W') (rJS : ∀ {s last W W'}, RecTurn l W W' → JS s last W → JS s last W')
    (hassign : ∀ cv W, W.heap[l]? = some (.loop (rec0 f a.tmps #[t] assign body D)) → wpF Tryz.prog f (some l) assign (Exit.then (fun a' W' => W' = W ∧ Mid cv a') (fun _ _ _ => False)) { tmps := a.tmps.setIfInBounds t cv, defers := [] } W)
    (hbody : ∀ pre bs cv av' s2 a' W, bs ≠ [] → ChS E r inb Bi tk M (some false) s2 av' bs.length feed false W → ByAt W cv bs → (∀ b off k c, cv = .slice (some ⟨b, off, none⟩) k c → b ∈ rdL r av') → JC pre bs s2 W → W.heap[l]? = some (.loop { rec0 f a.tmps #[t] assign body D with state := .busy }) → Mid cv a' →
      wpF Tryz.prog f (some l) body (rndPost l (rec0 f a.tmps #[t] assign body D) (ChNxt E r inb Bi tk M feed J pre bs s2) (fun c W' => K c ∧ ChStp E r inb Bi tk M feed JS W') Pan) a' W)
    (hdone : ∀ pre s3 av3 W, ChS E r inb Bi tk M (some false) s3 av3 0 feed true W → JC pre [] s3 W → Q .normal { a with defers := mark ++ a.defers } W)
    (hstop : ∀ c s3 av3 last3 ended3 W, K c → ChS E r inb Bi tk M (some false) s3 av3 last3 feed ended3 W → JS s3 last3 W → wpF Tryz.prog f ro c Q { a with defers := mark ++ a.defers } W)
    (hpan : ∀ ch W, Pan ch W ∨ (ch = waitsP ∧ Waits md E (inb :: tk :: M) (.panicked waitsP) W1 W) → Q (.panic ch) { a with defers := mark ++ a.defers } W) :
    wpF Tryz.prog f ro (Code.rangeFunc g #[t] assign body) Q a w := by
  refine wpF_range (α := List UInt8 × List UInt8 × Value × Value × Sx) (encs := fun x => #[x.2.2.1])
    (Pre := fun x W => x.2.1 ≠ [] ∧ ChS E r inb Bi tk M (some false) x.2.2.2.2 x.2.2.2.1 x.2.1.length feed false W ∧ ByAt W x.2.2.1 x.2.1 ∧ (∀ b off k c, x.2.2.1 = .slice (some ⟨b, off, none⟩) k c → b ∈ rdL r x.2.2.2.1) ∧ JC x.1 x.2.1 x.2.2.2.2 W)
    (Mid := fun x a' W => Mid x.2.2.1 a' ∧ x.2.1 ≠ [] ∧ ChS E r inb Bi tk M (some false) x.2.2.2.2 x.2.2.2.1 x.2.1.length feed false W ∧ ByAt W x.2.2.1 x.2.1 ∧ (∀ b off k c, x.2.2.1 = .slice (some ⟨b, off, none⟩) k c → b ∈ rdL r x.2.2.2.1) ∧ JC x.1 x.2.1 x.2.2.2.2 W)
    (Nxt := fun x W' => ∃ s3 av3, s3.k.rest = x.2.2.2.2.k.rest ∧ ChS E r inb Bi tk M (some false) s3 av3 x.2.1.length feed false W' ∧ J (x.1 ++ x.2.1) (some false) s3 x.2.1.length W')
    (Stp := fun c _ W' => K c ∧ ∃ s3 av3 last3 ended3, ChS E r inb Bi tk M (some false) s3 av3 last3 feed ended3 W' ∧ JS s3 last3 W') (Pan := Pan)
    hf hg cf_chunks (fun _ => rfl) he ?_ ?_ ?_ ?_ ?_ (fun hy => chunks_c h hJ hO hbuf hm hl hBi hlr (fun pre bs cv av' s2 W h0 hS hb hbl hjc hlW => hy (pre, bs, cv, av', s2) W hlW ⟨h0, hS, hb, hbl, hjc⟩)) ?_ ?_ hpan
  · rintro x a' W W' hr ⟨h1, h2, h3, h4, h5, h6⟩
    exact ⟨h1, h2, h3.rt hr hl hl0, h4.rt hr, h5, rJC hr h6⟩
  · rintro x W W' hr ⟨s3, av3, h1, h2, h3⟩
    exact ⟨s3, av3, h1, h2.rt hr hl hl0, rJ hr h3⟩
  · rintro c x W W' hr ⟨h1, s3, av3, last3, ended3, h2, h3⟩
    exact ⟨h1, s3, av3, last3, ended3, h2.rt hr hl hl0, rJS hr h3⟩
  · rintro x W hlW hp
    rw [zip_one]
    refine wpF_mono (hassign x.2.2.1 W hlW) ?_
    rintro e a' W' hq
    cases e with
    | normal =>
      obtain ⟨rfl, hm⟩ := hq
      exact ⟨hlW, hm, hp⟩
    | _ => exact hq
  · rintro x a' W hlW ⟨h1, h2, h3, h4, h5, h6⟩
    exact hbody _ _ _ _ _ a' W h2 h3 h4 h5 h6 hlW h1
  · rintro W W' hr ⟨pre, s3, av3, h1, h2⟩
    exact hdone pre s3 av3 W' (h1.rt hr hl hl0) (rJC hr h2)
  · rintro c W W' hr ⟨h1, s3, av3, last3, ended3, h2, h3⟩
    exact hstop c s3 av3 last3 ended3 W' h1 (h2.rt hr hl hl0) (rJS hr h3)

/-- An input, as the loop's body finds it. -/
structure TurnIn (E : Ev) (md : Option Bool) (s : Sx) (tk : Nat) (opts operands : Value) (status : Int) (M : List Nat) (l : Nat) (w : World) (inb r : Nat) (W : World) : Prop where
  ps : PS E md W s (rdL r (.slice none 0 0) ++ (inb :: tk :: M))
  rd : RdI E W r (.slice none 0 0) [] 0 false false (inb :: tk :: M)
  inp : InAt W inb s_dash tk (ptr r) false
  tk : TkAt W tk E.G.p opts operands status true
  kp : Kept (M.filter (· ≠ l)) w W
/-- 'for in := range t.Read(nil)'. -/
theorem range_inputs {U U' : Option Bool → Sx → Int → List UInt8 → World → Prop} {V V' : Option Bool → Sx → World → Prop} {Pan : List PanicEntry → World → Prop} {K : Code → Prop} {x : Option Addr} {c : Nat} {opts operands : Value} {status : Int} {Mid : Value → Act → Prop}
    (hf : Tryz.prog.funcs[f]? = some fn) (hg : a.eval g = .func (.func 184) #[] #[ptr Bo, ptr Bt]) (he : (Instr.enterLoop f a.tmps #[t] assign body ro).run Tryz.prog w = .ok (l, mark) W1) (hlr : W1.heap[l]? = some (.loop (rec0 f a.tmps #[t] assign body D)))
    (hp : PS E md W1 s (tk :: M)) (ht : TkAt W1 tk E.G.p opts operands status false) (htM : tk ∉ M) (hW0 : E.W0.heap.size ≤ tk) (hl : l ∈ M) (hl0 : E.W0.heap.size ≤ l)
    (hBo : W1.heap[Bo]? = some (.cells #[.slice x 0 c] 31)) (hBt : W1.cell? ⟨Bt, 0, none⟩ = some (ptr tk))
    (hV : ∀ md' s' last ah W W', U md' s' last ah W → Kept (tk :: M) W W' → V md' ((s'.drops last).drops ah.length) W') (hV' : ∀ md' s' last ah W W', U' md' s' last ah W → Kept (tk :: M) W W' → V' md' ((s'.drops last).drops ah.length) W')
    (rU : ∀ {md s last ah W W'}, RecTurn l W W' → U md s last ah W → U md s last ah W') (rU' : ∀ {md s last ah W W'}, RecTurn l W W' → U' md s last ah W → U' md s last ah W') (rV : ∀ {md s W W'}, RecTurn l W W' → V md s W → V md s W') (rV' : ∀ {md s W W'}, RecTurn l W W' → V' md s W → V' md s W')
    (hassign : ∀ cv W, W.heap[l]? = some (.loop (rec0 f a.tmps #[t] assign body D)) → wpF Tryz.prog f (some l) assign (Exit.then (fun a' W' => W' = W ∧ Mid cv a') (fun _ _ _ => False)) { tmps := a.tmps.setIfInBounds t cv, defers := [] } W)
    (hbody : ∀ w1 inb r a' W, Turn [Bo] W1 w1 → TurnIn E md s tk opts operands status M l w1 inb r W → W.heap[l]? = some (.loop { rec0 f a.tmps #[t] assign body D with state := .busy }) → Mid (ptr inb) a' →
      wpF Tryz.prog f (some l) body (rndPost l (rec0 f a.tmps #[t] assign body D) (TurnEnd E tk M inb r U) (fun c W' => K c ∧ TurnEnd E tk M inb r U' W') Pan) a' W)
    (hdone : ∀ W, TurnFin E tk M V W → Q .normal { a with defers := mark ++ a.defers } W)
    (hstop : ∀ c W, K c → TurnFin E tk M V' W → wpF Tryz.prog f ro c Q { a with defers := mark ++ a.defers } W)
    (hpan : ∀ ch W, Pan ch W → Q (.panic ch) { a with defers := mark ++ a.defers } W) :
    wpF Tryz.prog f ro (Code.rangeFunc g #[t] assign body) Q a w := by
  have rEnd : ∀ {U : Option Bool → Sx → Int → List UInt8 → World → Prop} {inb r : Nat} {W W' : World}, (∀ {md s last ah W W'}, RecTurn l W W' → U md s last ah W → U md s last ah W') → RecTurn l W W' → TurnEnd E tk M inb r U W → TurnEnd E tk M inb r U W' := by
    rintro U inb r W W' hU hr ⟨md', s', av, ah, last, feed, ended, failed, h1, h2, h3, h4, h5⟩
    exact ⟨md', s', av, ah, last, feed, ended, failed, h1.rt hr (by simp [hl]) hl0, h2.rt hr (by simp [hl]), hr.ob h3, hr.cell h4, hU hr h5⟩
  have rFin : ∀ {V : Option Bool → Sx → World → Prop} {W W' : World}, (∀ {md s W W'}, RecTurn l W W' → V md s W → V md s W') → RecTurn l W W' → TurnFin E tk M V W → TurnFin E tk M V W' := by
    rintro V W W' hU hr ⟨md', s', h1, h2⟩
    exact ⟨md', s', h1.rt hr (by simp [hl]) hl0, hU hr h2⟩
  refine wpF_range (α := World × Nat × Nat) (encs := fun x => #[ptr x.2.1])
    (Pre := fun x W => Turn [Bo] W1 x.1 ∧ TurnIn E md s tk opts operands status M l x.1 x.2.1 x.2.2 W)
    (Mid := fun x a' W => Mid (ptr x.2.1) a' ∧ Turn [Bo] W1 x.1 ∧ TurnIn E md s tk opts operands status M l x.1 x.2.1 x.2.2 W)
    (Nxt := fun x => TurnEnd E tk M x.2.1 x.2.2 U) (Stp := fun c x W' => K c ∧ TurnEnd E tk M x.2.1 x.2.2 U' W') (Pan := Pan)
    hf hg cf_inputs (fun _ => rfl) he ?_ ?_ ?_ ?_ ?_ (fun hy => inputs_c hp ht htM hW0 hl hlr hBo hBt hV hV' (fun w1 W inb r hT hpre hlW => hy (w1, inb, r) W hlW ⟨hT, hpre.ps, hpre.rd, hpre.inp, hpre.tk, hpre.kp.less (fun x hx => (List.mem_filter.1 hx).1)⟩)) ?_ ?_ hpan
  · rintro x a' W W' hr ⟨h1, h2, h3⟩
    exact ⟨h1, h2, h3.ps.rt hr (by simp [hl]) hl0, h3.rd.rt hr (by simp [hl]), hr.ob h3.inp, hr.ob h3.tk, h3.kp.trans ⟨[l], hr.turn, fun b hb => by have := (List.mem_filter.1 hb).2; simpa using this⟩⟩
  · exact fun x W W' hr h => rEnd rU hr h
  · exact fun c x W W' hr h => ⟨h.1, rEnd rU' hr h.2⟩
  · rintro x W hlW hp
    rw [zip_one]
    refine wpF_mono (hassign (ptr x.2.1) W hlW) ?_
    rintro e a' W' hq
    cases e with
    | normal =>
      obtain ⟨rfl, hm⟩ := hq
      exact ⟨hlW, hm, hp⟩
    | _ => exact hq
  · rintro x a' W hlW ⟨h1, h2, h3⟩
    exact hbody _ _ _ a' W h2 h3 hlW h1
  · exact fun W W' hr h => hdone W' (rFin rV hr h)
  · exact fun c W W' hr h => hstop c W' h.1 (rFin rV' hr h.2)
end
end Go.Proofs.YtfkoehfkiommpaaGreatDoor

namespace Go.Proofs.YtfkoehfkiommpaaGreatDoor
open Go.RowKit Go.Shelf Go.Maps

/-- From s0 on 'pre' was read and 'o' told; 'last' bytes are held; x: a step more. -/
structure Acc (fl buf : Nat) (s0 s : Sx) (pre o : List UInt8) (last x : Nat) : Prop where
  used : s0.k.used ≤ s.k.used ∧ s.k.used ≤ fl
  rest : s0.k.rest = pre ++ s.k.rest
  out : s.k.out = s0.k.out ++ o
  err : s.k.err = s0.k.err
  held : s.held = s0.held + last
  nn : 0 ≤ s0.held
  last : last ≤ buf
  peak : s0.peak ≤ s.peak ∧ s.peak ≤ max s0.peak (s0.held + buf)
  steps : s0.steps ≤ s.steps ∧ s.steps ≤ s0.steps + pre.length + o.length + (s.k.used - s0.k.used : Nat) + x
section
variable {l : List (Int × Int)} {buf : Nat} {s0 s s' : Sx} {pre o bs : List UInt8} {last x : Nat}
theorem Acc.refl (hu : s.k.used ≤ l.length) (hn : 0 ≤ s.held) : Acc l.length buf s s [] [] 0 0 :=
  ⟨⟨Nat.le_refl _, hu⟩, by simp, by simp, rfl, by simp, hn, Nat.zero_le _, ⟨Int.le_refl _, by omega⟩, ⟨Int.le_refl _, by simp⟩⟩
/-- Another chunk. -/
theorem Acc.got (h : Acc l.length buf s0 s pre o last 0) (hr : RdTo l (s.drops last) s' buf bs) : Acc l.length buf s0 (s'.holds bs.length) (pre ++ bs) o bs.length (if bs = [] then 1 else 0) := by
  obtain ⟨u, e, h1, h2, h3⟩ := hr.k
  have hd : (s.drops last).held = s0.held := by
    show s.held - min (last : Int) s.held = s0.held
    have := h.held
    have := h.nn
    omega
  have hh : s'.held = s0.held := hr.held.trans hd
  have hp : s'.peak = s.peak := hr.peak
  have hle := hr.le
  have hst := hr.steps
  have e1 : (s.drops last).k = s.k := rfl
  have e2 : (s.drops last).steps = s.steps := rfl
  rw [e1] at e h1 h3
  rw [e2] at h3 hst
  have hcut : bs = s.k.rest.take bs.length := hr.cut
  have ek : (s'.holds bs.length).k = { s.k with used := u, rest := s.k.rest.drop bs.length } := e
  have hus := h.used
  have hss := h.steps
  have hpk := h.peak
  have hn := h.nn
  refine ⟨?_, ?_, ?_, ?_, ?_, h.nn, hle, ?_, ?_⟩
  · rw [ek]; show s0.k.used ≤ u ∧ u ≤ l.length; omega
  · rw [ek]
    show s0.k.rest = pre ++ bs ++ s.k.rest.drop bs.length
    rw [List.append_assoc]
    conv => rhs; rhs; lhs; rw [hcut]
    rw [List.take_append_drop]
    exact h.rest
  · rw [ek]; exact h.out
  · rw [ek]; exact h.err
  · show s'.held + (bs.length : Int) = _; omega
  · show s0.peak ≤ max s'.peak (s'.held + bs.length) ∧ max s'.peak (s'.held + bs.length) ≤ _; omega
  · rw [ek]
    show s0.steps ≤ s'.steps ∧ s'.steps ≤ s0.steps + ((pre ++ bs).length : Nat) + o.length + (u - s0.k.used : Nat) + _
    rw [List.length_append]
    by_cases hb : bs = []
    · rw [if_pos hb]
      subst hb
      simp only [List.length_nil]
      omega
    · rw [if_neg hb]
      have := List.length_pos_iff.2 hb
      omega
/-- Something more is told. -/
theorem Acc.told (h : Acc l.length buf s0 s pre o last x) (hw : Wrote l s s' false bs) : Acc l.length buf s0 s' pre (o ++ bs) last x := by
  obtain ⟨u, e, h1, h2, h3⟩ := hw.k
  have hus := h.used
  have hss := h.steps
  have hst := hw.steps
  have hh := hw.held
  have hp := hw.peak
  have e1 : s'.k.used = u := by rw [e]; rfl
  refine ⟨by omega, ?_, ?_, ?_, ?_, h.nn, h.last, by rw [hp]; exact h.peak, ?_⟩
  · rw [e]; exact h.rest
  · rw [e]
    show s.k.out ++ bs = _
    rw [h.out, List.append_assoc]
  · rw [e]; exact h.err
  · rw [hh]; exact h.held
  · rw [e1, List.length_append]; omega
/-- At the end all was read. -/
theorem Acc.all (h : Acc l.length buf s0 s pre o last 0) (hr : RdTo l (s.drops last) s' buf []) : pre = s0.k.rest := by
  have := hr.none rfl
  have e : (s.drops last).k = s.k := rfl
  rw [e] at this
  rw [h.rest, this, List.append_nil]
end
end Go.Proofs.YtfkoehfkiommpaaGreatDoor

namespace Go.Proofs.YtfkoehfkiommpaaGreatDoor
open Go.RowKit Go.Shelf Go.Maps

/-- A piece without a range, ahead of a loop. -/
theorem wpF_wide {P : Program} {f : FuncId} {Q : Exit → Act → World → Prop} {a : Act} {w : World} {n : Nat} {c : Code} (h : c.wpIn Fence.wide n P Q a w) : wpF P f none c Q a w := wpF_of_wpIn (ro := none) h
/-- And in a round. -/
theorem wpF_round {P : Program} {f : FuncId} {Q : Exit → Act → World → Prop} {a : Act} {w : World} {n l : Nat} {c : Code} (h : c.wpIn (Fence.wide.inRound l) n P Q a w) : wpF P f (some l) c Q a w := wpF_of_wpIn (ro := some l) h
theorem mark_turn {D : Nat} {o : Obj} {W : World} : Turn [D] W (W.putObj D o) :=
  ⟨rfl, rfl, rfl, by simp [World.putObj], fun b _ hn => World.putObj_heap_other (by simp at hn; omega)⟩
theorem leave_ret {P : Program} {fn : Func} {tmps : Array Value} {R : Ending → World → Prop} {D : Nat} {W : World} (hD : W.heap[D]? = some (.deferred (some []))) (v : Value) (hr : (results fn tmps).run P (W.putObj D (.deferred none)) = .ok v (W.putObj D (.deferred none))) (hR : R (.returned v) (W.putObj D (.deferred none))) :
    LeavesInM Fence.wide 0 P fn tmps R [{ target := .collected D, args := #[] }] .returning W :=
  ⟨by simp, .inl ⟨D, _, rfl, run_takeDeferred hD, v, hr, hR⟩⟩
theorem leave_panic {P : Program} {fn : Func} {tmps : Array Value} {R : Ending → World → Prop} {D : Nat} {W : World} {ch : List PanicEntry} (hD : W.heap[D]? = some (.deferred (some []))) (hR : R (.panicked ch) (W.putObj D (.deferred none))) :
    LeavesInM Fence.wide 0 P fn tmps R [{ target := .collected D, args := #[] }] (.panicking ch) W :=
  ⟨by simp, .inl ⟨D, _, rfl, run_takeDeferred hD, hR⟩⟩
theorem mark_cell {D : Nat} {o : Obj} {x : Option (List Deferred)} {W : World} {a : Addr} {v : Value} (hD : W.heap[D]? = some (.deferred x)) (hc : W.cell? a = some v) : (W.putObj D o).cell? a = some v := by
  refine mark_turn.cell hc ?_
  intro e
  have e : a.block = D := by simpa using e
  rw [World.cell?, e, hD] at hc
  cases hc
theorem mark_ob {D b : Nat} {o : Obj} {x : Option (List Deferred)} {W : World} {cs : Array Value} {t : TypeId} (hD : W.heap[D]? = some (.deferred x)) (ho : W.heap[b]? = some (.cells cs t (0, 0))) : (W.putObj D o).heap[b]? = some (.cells cs t (0, 0)) := by
  refine mark_turn.ob ho ?_
  intro e
  have e : b = D := by simpa using e
  rw [e, hD] at ho
  cases ho
theorem mark_row {D B T n : Nat} {o : Obj} {x : Option (List Deferred)} {W : World} {v : Value} {xs : List Value} (hD : W.heap[D]? = some (.deferred x)) (ho : W.ownsRow B T 1 v n xs) : (W.putObj D o).ownsRow B T 1 v n xs := by
  refine own_turn ho mark_turn (fun g hg e => ?_)
  have e : g = D := by simpa using e
  rcases ho.2 with ⟨rfl, _⟩ | ⟨g', cap, cur, rfl, hb, hg', _⟩
  · simp [Value.ownBlock] at hg
  · have e2 : g' = g := by simpa [Value.ownBlock] using hg
    rw [e2, e, hD] at hg'
    cases hg'
section
variable {E : Ev} {md : Option Bool} {w W : World} {s : Sx} {M : List Nat} {D : Nat} {x : Option (List Deferred)} {o : Obj}
theorem PS.marked (h : PS E md W s (D :: M)) (hD0 : E.W0.heap.size ≤ D) : PS E md (W.putObj D o) s M :=
  h.own mark_turn (fun b hb => by
    have e : b = D := by simpa using hb
    rw [e]
    exact ⟨hD0, .inl (by simp)⟩) (fun b hb => .inl (by simp [hb]))
theorem Waits.marked {e : Ending} (h : Waits md E M e w W) (hD : W.heap[D]? = some (.deferred x)) (hD0 : E.W0.heap.size ≤ D) {N : List Nat} (hN : ∀ b ∈ N, b ∈ M ∧ b ≠ D) : Waits md E N e w (W.putObj D o) := by
  obtain ⟨h1, h2, ⟨nx, hnx, hwt, hmc⟩, hpr, hT, S, hS, hM⟩ := h
  refine ⟨h1, h2, ⟨nx, hnx, ⟨fun e => ?_, fun e => ?_⟩, mark_ob hD hmc⟩, mark_ob hD hpr, ⟨hT.os, hT.tape, hT.output, Nat.le_trans hT.size mark_turn.size, fun b hb hn => (mark_turn.block b (Nat.lt_of_lt_of_le hb hT.size) (by simp; omega)).trans (hT.block b hb hn)⟩, D :: S, (hS.mono (fun b hb => by simp [hb])).trans (mark_turn.mono (by simp)), fun b hb e => ?_⟩
  · obtain ⟨a, b, y, e1, c1, c2, c3, e2⟩ := hwt.rd e
    exact ⟨a, b, y, e1, mark_cell hD c1, mark_cell hD c2, mark_cell hD c3, e2⟩
  · obtain ⟨a, b, y, kv, e1, c1, c2, c3, e2, e3⟩ := hwt.wr e
    exact ⟨a, b, y, kv, e1, mark_cell hD c1, mark_cell hD c2, mark_cell hD c3, mark_row hD e2, e3⟩
  · rcases List.mem_cons.1 e with e | e
    · exact (hN b hb).2 e
    · exact hM b (hN b hb).1 e
theorem Waits.less {e : Ending} (h : Waits md E M e w W) {N : List Nat} (hN : ∀ b ∈ N, b ∈ M) : Waits md E N e w W := by
  obtain ⟨h1, h2, h3, hpr, hT, S, hS, hM⟩ := h
  exact ⟨h1, h2, h3, hpr, hT, S, hS, fun b hb => hM b (hN b hb)⟩
end
end Go.Proofs.YtfkoehfkiommpaaGreatDoor

namespace Go.Proofs.YtfkoehfkiommpaaGreatDoor

/-- The number that digits to the base b say, at most so great: from n on. -/
def rd (b most : Int) : List UInt8 → Int → Int × Bool
  | [], n => (n, true)
  | c :: cs, n =>
    if (c.toNat : Int) < 48 ∨ b + 48 ≤ (c.toNat : Int) ∨ most < (c.toNat : Int) - 48 ∨ (most - ((c.toNat : Int) - 48)) / b < n then (0, false)
    else rd b most cs (n * b + ((c.toNat : Int) - 48))

/-- The whole reading: nothing is no number. -/
def rdAll (b most : Int) (s : List UInt8) : Int × Bool := if s.length = 0 then (0, false) else rd b most s 0

theorem drop_cons (s : ByteArray) (k : Nat) (h : k < s.size) : s.data.toList.drop k = s[k] :: s.data.toList.drop (k + 1) := by
  rw [List.drop_eq_getElem_cons (by simpa using h)]; rfl

theorem rd_bad {b most : Int} {c : UInt8} {cs : List UInt8} {n : Int} {r : Int × Bool} (h : rd b most (c :: cs) n = r) (x : (c.toNat : Int) < 48 ∨ b + 48 ≤ (c.toNat : Int) ∨ most < (c.toNat : Int) - 48 ∨ (most - ((c.toNat : Int) - 48)) / b < n) : r = (0, false) := by
  rw [← h, rd, if_pos x]

theorem rd_go {b most : Int} {c : UInt8} {cs : List UInt8} {n : Int} {r : Int × Bool} (h : rd b most (c :: cs) n = r) (x : ¬ ((c.toNat : Int) < 48 ∨ b + 48 ≤ (c.toNat : Int) ∨ most < (c.toNat : Int) - 48 ∨ (most - ((c.toNat : Int) - 48)) / b < n)) : rd b most cs (n * b + ((c.toNat : Int) - 48)) = r := by
  rw [← h, rd, if_neg x]

theorem rd_end {b most n : Int} {s : List UInt8} {k : Nat} {r : Int × Bool} (h : rd b most (s.drop k) n = r) (x : s.length ≤ k) : r = (n, true) := by
  rw [← h, List.drop_of_length_le x, rd]

theorem rdAll_nil {b most : Int} {s : List UInt8} (h : s.length = 0) : rdAll b most s = (0, false) := by rw [rdAll, if_pos h]
theorem rdAll_go {b most : Int} {s : List UInt8} (h : ¬ s.length = 0) : rd b most s 0 = rdAll b most s := by rw [rdAll, if_neg h]

theorem tdiv_case (m b : Int) : (0 ≤ m ∧ m.tdiv b = m / b) ∨ (m < 0 ∧ m.tdiv b = -((-m) / b)) := by
  by_cases h : 0 ≤ m
  · exact .inl ⟨h, Int.tdiv_eq_ediv_of_nonneg h⟩
  · refine .inr ⟨by omega, ?_⟩
    have e : m.tdiv b = -((-m).tdiv b) := by rw [Int.neg_tdiv, Int.neg_neg]
    rw [e, Int.tdiv_eq_ediv_of_nonneg (by omega)]
end Go.Proofs.YtfkoehfkiommpaaGreatDoor

namespace Go.Proofs.YtfkoehfkiommpaaGreatDoor.Tr
open Go.Proofs.YtfkoehfkiommpaaGreatDoor.Op

def isOct (c : UInt8) : Bool := decide (48 ≤ c.toNat ∧ c.toNat ≤ 55)
def isDec (c : UInt8) : Bool := decide (48 ≤ c.toNat ∧ c.toNat ≤ 57)
/-- Digits to the base eight, so many at most. -/
def octs : Nat → List UInt8 → List UInt8
  | 0, _ => []
  | _ + 1, [] => []
  | k + 1, c :: r => if isOct c = true then c :: octs k r else []
def octV (l : List UInt8) : Nat := l.foldl (fun n c => 8 * n + (c.toNat - 48)) 0
def codeS (c : UInt8) : UInt8 :=
  if c = 97 then 7 else if c = 98 then 8 else if c = 102 then 12 else if c = 110 then 10 else if c = 114 then 13 else if c = 116 then 9 else if c = 118 then 11 else c
/-- A sign: its byte, and how long it is. -/
def signS : List UInt8 → UInt8 × Nat
  | [] => (0, 0)
  | [c] => (c, 1)
  | c :: d :: r =>
    if c ≠ 92 then (c, 1)
    else if octs 3 (d :: r) = [] then (codeS d, 2)
    else (UInt8.ofNat (octV (octs 3 (d :: r))), (octs 3 (d :: r)).length + 1)

def within (a b c : Nat) : Bool := decide (a ≤ c ∧ c ≤ b)
def upperB (c : Nat) : Bool := within 65 90 c
def lowerB (c : Nat) : Bool := within 97 122 c
def digitB (c : Nat) : Bool := within 48 57 c
/-- A class, by its name. -/
def classP (name : List UInt8) : Option (Nat → Bool) :=
  if name = [97, 108, 112, 104, 97] then some fun c => upperB c || lowerB c
  else if name = [100, 105, 103, 105, 116] then some digitB
  else if name = [97, 108, 110, 117, 109] then some fun c => upperB c || lowerB c || digitB c
  else if name = [117, 112, 112, 101, 114] then some upperB
  else if name = [108, 111, 119, 101, 114] then some lowerB
  else if name = [98, 108, 97, 110, 107] then some fun c => c == 9 || c == 32
  else if name = [115, 112, 97, 99, 101] then some fun c => within 9 13 c || c == 32
  else if name = [99, 110, 116, 114, 108] then some fun c => decide (c < 32) || c == 127
  else if name = [112, 114, 105, 110, 116] then some fun c => within 32 126 c
  else if name = [103, 114, 97, 112, 104] then some fun c => within 33 126 c
  else if name = [112, 117, 110, 99, 116] then some fun c => within 33 126 c && !upperB c && !lowerB c && !digitB c
  else if name = [120, 100, 105, 103, 105, 116] then some fun c => digitB c || within 65 70 c || within 97 102 c
  else none
/-- The bytes below n of which something holds, rising. -/
def bytesOf (p : Nat → Bool) (n : Nat) : List UInt8 := ((List.range n).filter p).map UInt8.ofNat
def classL (name : List UInt8) : List UInt8 := match classP name with | some p => bytesOf p 256 | none => []

/-- A string that is being read. -/
structure St where
  out : List UInt8
  rest : Int
  bad : Bool
/-- Where a colon and a bracket first stand. -/
def shutS : List UInt8 → Option Nat
  | [] => none
  | [_] => none
  | a :: b :: r => if a = 58 ∧ b = 93 then some 0 else (shutS (b :: r)).map (· + 1)
def classS : List UInt8 → Option (Nat × (St → St))
  | a :: b :: t => if a = 91 ∧ b = 58 then (shutS t).map fun k => (k + 4, fun x => { x with out := x.out ++ classL (t.take k), bad := x.bad || (classP (t.take k)).isNone }) else none
  | _ => none
def addS (c : UInt8) (x : St) : St := { x with out := x.out ++ [c] }
def equalS : List UInt8 → Option (Nat × (St → St))
  | a :: b :: d :: t =>
    if a = 91 ∧ b = 61 ∧ ((d :: t).drop (signS (d :: t)).2)[0]? = some 61 ∧ ((d :: t).drop (signS (d :: t)).2)[1]? = some 93 then some ((signS (d :: t)).2 + 4, addS (signS (d :: t)).1) else none
  | _ => none
/-- How often. -/
def manyS (d : List UInt8) : Int × Bool :=
  if d = [] then (0, true) else if d.head? = some 48 then rdAll 8 2147483647 d else rdAll 10 2147483647 d
def timesX (c : UInt8) (q : Int × Bool) (x : St) : St :=
  if q.2 = false ∨ (q.1 = 0 ∧ 0 ≤ x.rest) then { x with bad := true }
  else if q.1 = 0 then { x with out := x.out ++ [c], rest := x.out.length }
  else { x with out := x.out ++ List.replicate (min q.1.toNat 65536) c }
def timesS : List UInt8 → Option (Nat × (St → St))
  | a :: b :: t =>
    if a = 91 ∧ ((b :: t).drop (signS (b :: t)).2)[0]? = some 42 then
      let u := (b :: t).drop ((signS (b :: t)).2 + 1)
      let d := u.takeWhile isDec
      if (u.drop d.length)[0]? = some 93 then some ((signS (b :: t)).2 + d.length + 3, timesX (signS (b :: t)).1 (manyS d)) else none
    else none
  | _ => none
def spanL (c d : UInt8) : List UInt8 := (List.range (d.toNat + 1 - c.toNat)).map fun i => UInt8.ofNat (c.toNat + i)
def plainS (s : List UInt8) : Nat × (St → St) :=
  let p := signS s
  let t := s.drop p.2
  if t[0]? = some 45 ∧ 2 ≤ t.length then
    let q := signS (t.drop 1)
    (p.2 + 1 + q.2, fun x => { x with out := x.out ++ spanL p.1 q.1, bad := x.bad || decide (q.1.toNat < p.1.toNat) })
  else (p.2, addS p.1)
def stepS (s : List UInt8) : Nat × (St → St) :=
  match classS s with
  | some r => r
  | none => match equalS s with
    | some r => r
    | none => match timesS s with
      | some r => r
      | none => plainS s
/-- Read on, so many signs at most. -/
def setN : Nat → List UInt8 → St → St
  | 0, _, x => x
  | _ + 1, [], x => x
  | n + 1, c :: r, x => setN n ((c :: r).drop (stepS (c :: r)).1) ((stepS (c :: r)).2 x)
def st0 : St := ⟨[], -1, false⟩
def setE (x : St) : List UInt8 × Int × Bool := if x.bad = true then ([], -1, false) else (x.out, x.rest, true)
/-- P10.1. -/
def setS (s : List UInt8) : List UInt8 × Int × Bool := setE (setN s.length s st0)

/-- What a byte is translated to. -/
def lastAt : List UInt8 → UInt8 → Option Nat
  | [], _ => none
  | c :: r, b => match lastAt r b with
    | some i => some (i + 1)
    | none => if c = b then some 0 else none
def becomesS (one two : List UInt8) (b : UInt8) : UInt8 :=
  match lastAt one b with
  | none => b
  | some i => if i < two.length then two[i]?.getD b else two.getLast?.getD b
def squeezeS (p : UInt8 → Bool) : Option UInt8 → List UInt8 → List UInt8
  | _, [] => []
  | last, b :: r => if p b = true ∧ last = some b then squeezeS p last r else b :: squeezeS p (some b) r
def othersS (l : List UInt8) : List UInt8 := bytesOf (fun c => !l.contains (UInt8.ofNat c)) 256
def fillS (l : List UInt8) (rest : Int) (size : Nat) : List UInt8 :=
  if rest < 0 then l else l.take rest.toNat ++ List.replicate (size - (l.length - 1)) ((l[rest.toNat]?).getD 0) ++ l.drop (rest.toNat + 1)
def hasO (l : Opts) (c : UInt8) : Bool := l.any fun q => q.1 == c
/-- What becomes of bytes. -/
structure Tr where
  (del squeeze move : Bool)
  (one two : List UInt8)
def Tr.each (t : Tr) (b : UInt8) : List UInt8 :=
  if t.one.contains b = true then (if t.del = true then [] else if t.move = true then [becomesS t.one t.two b] else [b]) else [b]
def Tr.all (t : Tr) (l : List UInt8) : List UInt8 :=
  if t.squeeze = true then squeezeS t.two.contains none (l.flatMap t.each) else l.flatMap t.each
def trS (l : Opts) (operands : List (List UInt8)) : Option Tr :=
  let del := hasO l 100
  let sq := hasO l 115
  let want := if del ≠ sq ∧ (del = true ∨ operands.length = 1) then 1 else 2
  if operands.length ≠ want then none else
  let p := setS (operands[0]?.getD [])
  if p.2.2 = false ∨ 0 ≤ p.2.1 then none else
  let one := if hasO l 99 = true ∨ hasO l 67 = true then othersS p.1 else p.1
  if want = 1 then some ⟨del, sq, false, one, one⟩ else
  let q := setS (operands[1]?.getD [])
  if q.2.2 = false then none else
  let two := fillS q.1 q.2.1 one.length
  if del = false ∧ two = [] ∧ one ≠ [] then none else some ⟨del, sq, !del, one, two⟩
def trSpec : ByteArray := ⟨#[99, 67, 100, 115]⟩
/-- P10.2: of arguments; none: a usage error. -/
def trA (args : List ByteArray) : Option Tr := (parseS trSpec [] args).bind fun p => trS p.1 (p.2.map fun a => a.data.toList)

-- the chapter's examples
theorem ex_set : setS [97, 45, 99, 91, 120, 42, 50, 93, 92, 110] = ([97, 98, 99, 120, 120, 10], -1, true) := by decide +kernel
end Go.Proofs.YtfkoehfkiommpaaGreatDoor.Tr
