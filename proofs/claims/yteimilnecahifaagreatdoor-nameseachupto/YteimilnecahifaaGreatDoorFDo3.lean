/- printf: the machine around its printer. -/
import Derived.Test.YteimilnecahifaaGreatDoorFFail
import Derived.Deep.Cut
namespace Go.Proofs.YteimilnecahifaaGreatDoor.Nm
open Go.Proofs.YteimilnecahifaaGreatDoor Go.Proofs.YteimilnecahifaaGreatDoor.Op
open Go.RowKit

def xBad : ByteArray := bz [120]
def notNum : List UInt8 := [110, 111, 116, 32, 97, 32, 110, 117, 109, 98, 101, 114]
def prName : List UInt8 := [112, 114, 105, 110, 116, 102]
theorem say_bad : sayL prName [120] notNum = badLine xBad := by decide
section
variable (E : Ev) (md : Option Bool) (w0 : World) (sa : List ByteArray) (tk : Nat) (lv ov : Value)
/-- Nothing was said. -/
structure PreN (M : List Nat) (w : World) : Prop where
  ps : PS E md w (s0 []) M
  tk : TkN w tk E.G.p lv ov 0 false 1 false
  arg : w.ownsRow 0 9 1 E.G.args (bz prName :: sa).length ((bz prName :: sa).map .string)
  wd : w.cell? ⟨6, 25, none⟩ = some (.string (bz notNum))
  gl : GlT w
  kp : Kept [] w0 w
/-- The line was said. -/
structure PostN (M : List Nat) (w : World) : Prop where
  nn : md ≠ none
  ps : ∃ s', Wrote E.G.faults (s0 []) s' true (badLine xBad) ∧ PS E (some false) w s' (gls ++ M)
  tk : TkN w tk E.G.p lv ov 1 false 1 false
  kp : Kept [] w0 w
/-- What is known between two parts. -/
structure McN (bs : List ByteArray) (M : List Nat) (w : World) : Prop where
  mem : tk ∈ M
  lt : ∀ b ∈ M, w0.heap.size ≤ b ∧ b < w.heap.size
  base : w0.heap.size ≤ w.heap.size
  tab : TabD w ∧ ErS w
  st : (bs = [] ∧ PreN E md w0 sa tk lv ov M w) ∨ (bs = [xBad] ∧ PostN E md w0 tk lv ov M w)
/-- What does not change while main runs. -/
structure EnvN (Bd : List ByteArray) : Prop where
  e0 : E.W0.heap.size ≤ w0.heap.size
  g : ∀ b ∈ 6 :: gls, b < w0.heap.size
  ab : ∀ b, E.G.args.ownBlock = some b → b < w0.heap.size
  fl : E.G.faults.length ≤ 1048576
  bd : Bd = [] ∨ Bd = [xBad]
  c0 : Bd = [xBad] → E.c0 = .write true (badLine xBad)
  sa : (bz prName :: sa).length ≤ 1048576
end
theorem kept_of {a b c : World} (h : Kept [] a b) {S : List Nat} (hT : Turn S b c) : Kept [] a c := Kept.trans h ⟨S, hT, by simp⟩
theorem mach_n {E : Ev} {md : Option Bool} {w0 : World} {sa : List ByteArray} {tk tb : Nat} {lv ov : Value} {Bd : List ByteArray} (hE : EnvN E w0 sa Bd) : Mach w0.heap.size tk tb Bd (McN E md w0 sa tk lv ov) (fun w' => Waits md E [] (.panicked waitsP) w0 w') where
  own := fun {bs M w S w' N} h hT hS hN hk => by
    have hgl : ∀ b ∈ gls, b ∉ S := fun b hb e => by
      have := hE.g b (by simp [hb])
      have := (hS b e).1
      omega
    have hgk : ∀ b ∈ gls, w'.heap[b]? = w.heap[b]? := fun b hb => hT.block b (Nat.lt_of_lt_of_le (hE.g b (by simp [hb])) h.base) (hgl b hb)
    have htk : tk ∉ S := fun e => (hS tk e).2.2 rfl
    refine ⟨hk, fun b hb => ?_, Nat.le_trans h.base hT.size, ⟨h.tab.1.kept hgk hT.size, h.tab.2.kept hgk⟩, ?_⟩
    · rcases hN b hb with h1 | h1
      · exact ⟨(h.lt b h1).1, Nat.lt_of_lt_of_le (h.lt b h1).2 hT.size⟩
      · exact ⟨Nat.le_trans h.base h1.1, h1.2⟩
    · rcases h.st with ⟨rfl, hp⟩ | ⟨rfl, hp⟩
      · refine .inl ⟨rfl, hp.ps.own hT (fun b hb => ⟨Nat.le_trans hE.e0 (hS b hb).1, .inl (hS b hb).2.1⟩) hN, hT.ob hp.tk htk, own_turn hp.arg hT (fun b e hb => ?_), hT.cell hp.wd (fun e => ?_), hp.gl.kept hgk, kept_of hp.kp hT⟩
        · have := hE.ab b e
          have := (hS b hb).1
          omega
        · have h1 := hE.g 6 (by simp)
          have h2 : w0.heap.size ≤ 6 := (hS _ e).1
          omega
      · obtain ⟨s', h1, h2⟩ := hp.ps
        refine .inr ⟨rfl, hp.nn, ⟨s', h1, h2.own hT (fun b hb => ⟨Nat.le_trans hE.e0 (hS b hb).1, .inl (by simp [(hS b hb).2.1])⟩) (fun b hb => ?_)⟩, hT.ob hp.tk htk, kept_of hp.kp hT⟩
        rcases List.mem_append.1 hb with hb | hb
        · exact .inl (by simp [hb])
        · rcases hN b hb with h3 | h3
          · exact .inl (by simp [h3])
          · exact .inr h3
  lt := fun h => h.lt
  at_tk := fun h => h.mem
  base := fun h => h.base
  tab := fun h => h.tab
  say := fun {bs M w a rest} h hbd htb => by
    have hbs : bs = [] ∧ a = xBad ∧ Bd = [xBad] := by
      rcases hE.bd with e | e
      · rw [e] at hbd; simp at hbd
      · rw [e] at hbd
        cases bs with
        | nil => simp only [List.nil_append, List.cons.injEq] at hbd; exact ⟨rfl, hbd.1, e⟩
        | cons b bs => simp at hbd
    obtain ⟨rfl, rfl, hBd⟩ := hbs
    have hp : PreN E md w0 sa tk lv ov M w := by
      rcases h.st with ⟨_, hp⟩ | ⟨e, _⟩
      · exact hp
      · cases e
    have hc0 := hE.c0 hBd
    obtain ⟨M', hM', hps, hsub⟩ : ∃ M', (md ≠ none → M' = gls ++ M) ∧ PS E md w (s0 []) M' ∧ ∀ b ∈ M, b ∈ M' := by
      cases md with
      | none => exact ⟨M, fun e => absurd rfl e, hp.ps, fun b hb => hb⟩
      | some f => exact ⟨gls ++ M, fun _ => rfl, hp.gl.more hp.ps, fun b hb => by simp [hb]⟩
    have hsay := say_n hps hp.arg hE.sa [120] notNum 25 (by decide) hp.wd (by decide) (by decide) (by decide) (Nat.zero_le _) ⟨Nat.zero_le _, Nat.zero_le _⟩ (by show (0 : Int) + _ ≤ _; have := hE.fl; omega) (fun _ => by rw [say_bad]; exact hc0)
    rw [say_bad] at hsay
    have hfail := fail_n (P := fun w' => Waits md E [] (.panicked waitsP) w0 w') (Q := fun w' => md ≠ none ∧ ∃ s', Wrote E.G.faults (s0 []) s' true (badLine xBad) ∧ PS E (some false) w' s' M' ∧ Kept M' w w') xBad 25 hp.tk (hsay.mono (by
      rintro e w' (⟨hmd, rfl, q1, q2, q3, S, q4, q5⟩ | ⟨hv, s', q1, q2, q3, q4⟩)
      · exact .inl ⟨rfl, hmd, rfl, q1, q2, q3, Kept.trans hp.kp ⟨S, q4, by simp⟩⟩
      · exact .inr ⟨hv, q3.ob hp.tk (hsub tk h.mem), q4, s', q1, q2, q3⟩))
    refine (wrong_n (R := fun e w' => (e = .panicked waitsP ∧ Waits md E [] (.panicked waitsP) w0 w') ∨ (e ≠ .panicked waitsP ∧ McN E md w0 sa tk lv ov ([] ++ [xBad]) M w' ∧ ∃ S, Turn S w w' ∧ ∀ b ∈ M, b ≠ tk → b ∉ S)) xBad htb (hfail.mono ?_)).mono ?_
    · rintro e w' (⟨rfl, hW⟩ | ⟨hv, w1, ⟨hn, s', q1, q2, q3⟩, ht1, rfl⟩)
      · exact .inl ⟨rfl, .inl ⟨rfl, hW⟩⟩
      · refine .inr ⟨hv, fun v => .inr ⟨by simp, ?_⟩⟩
        have hMe := hM' hn
        subst hMe
        obtain ⟨S, k1, k2⟩ := q3
        have hTs : Turn [tk] w1 (w1.setCell ⟨tk, 3, none⟩ (.int .i64 1)) := Turn.set w1 tk 3 _ (by simp)
        have hTk : ∀ b ∈ gls, b ∉ [tk] := fun b hb e => by
          simp only [List.mem_singleton] at e
          have := hE.g b (by simp [hb])
          have := (h.lt tk h.mem).1
          omega
        have hgk : ∀ b ∈ gls, (w1.setCell ⟨tk, 3, none⟩ (.int .i64 1)).heap[b]? = w.heap[b]? := fun b hb => by
          have hb1 : b < w.heap.size := Nat.lt_of_lt_of_le (hE.g b (by simp [hb])) h.base
          rw [hTs.block b (Nat.lt_of_lt_of_le hb1 k1.size) (hTk b hb), k1.block b hb1 (k2 b (by simp [hb]))]
        have hsz : w.heap.size ≤ (w1.setCell ⟨tk, 3, none⟩ (.int .i64 1)).heap.size := Nat.le_trans k1.size hTs.size
        have ht2 : TkN (w1.setCell ⟨tk, 3, none⟩ (.int .i64 1)) tk E.G.p lv ov 1 false 1 false := by
          have := h_set ht1 3 (.int .i64 1)
          simpa using this
        refine ⟨⟨h.mem, fun b hb => ⟨(h.lt b hb).1, Nat.lt_of_lt_of_le (h.lt b hb).2 hsz⟩, Nat.le_trans h.base hsz, ⟨h.tab.1.kept hgk hsz, h.tab.2.kept hgk⟩, .inr ⟨rfl, hn, ⟨s', q1, q2.own hTs (fun b hb => ?_) (fun b hb => .inl hb)⟩, ht2, Kept.trans hp.kp (Kept.trans ⟨S, k1, by simp⟩ ⟨[tk], hTs, by simp⟩)⟩⟩, tk :: S, (k1.mono (by simp +contextual)).trans (hTs.mono (by simp)), fun b hb hne e => ?_⟩
        · simp only [List.mem_singleton] at hb
          subst hb
          exact ⟨Nat.le_trans hE.e0 (h.lt b h.mem).1, .inl (by simp [h.mem])⟩
        · rcases List.mem_cons.1 e with e | e
          · exact hne e
          · exact k2 b (by simp [hb]) e
    · rintro e w' ⟨(⟨rfl, hW⟩ | ⟨hne, hm, hS⟩), he⟩
      · exact .inl ⟨rfl, hW⟩
      · exact .inr ⟨he.resolve_left hne, hm, hS⟩
end Go.Proofs.YteimilnecahifaaGreatDoor.Nm

namespace Go.Proofs.YteimilnecahifaaGreatDoor.Nm
open Go.Proofs.YteimilnecahifaaGreatDoor Go.Proofs.YteimilnecahifaaGreatDoor.Op
open Go.RowKit

/-- What is told, what is said, how it ends. -/
def QP (out err : List UInt8) (st st' : Int) (s2 : Sx) : Prop := st' = st ∧ s2.k.out = out ∧ s2.k.err = err
theorem strs_cons {w : World} {ov : Value} {f : ByteArray} {args : List ByteArray} (h : StrsAt w ov (f :: args)) : ∃ g off cap, ov = .slice (some ⟨g, off, none⟩) (args.length + 1) cap ∧ ArgsIn w g ov (f :: args) ∧ w.cell? ⟨g, off, none⟩ = some (.string f) ∧ args.length + 1 ≤ cap ∧ cap ≤ 9223372036854775807 := by
  rcases h with ⟨_, h⟩ | ⟨g, off, cap, rfl, hcap, hb, hc⟩
  · cases h
  · exact ⟨g, off, cap, rfl, ⟨.inr ⟨g, off, cap, rfl, hcap, hb, hc⟩, fun _ _ _ _ e => by cases e; rfl⟩, by simpa [nth] using hc 0 (by simp), hcap.1, hcap.2⟩
theorem store_prt (V : World) (A : Value) (f : Fn) (z : Array Value) (t : Nat) : (store ⟨V.heap.size, 3, none⟩ (.func f #[] z)).run Tryz.prog (V.alloc (.cells #[A, .slice none 0 0, .bool false, .nilFunc] t)) = .ok () (V.alloc (.cells #[A, .slice none 0 0, .bool false, .func f #[] z] t)) := by
  have hn : (V.alloc (.cells #[A, .slice none 0 0, .bool false, .nilFunc] t)).heap[V.heap.size]? = some (.cells #[A, .slice none 0 0, .bool false, .nilFunc] t (0, 0)) := al_new _ _
  rw [store_fn f #[] z (h_cell hn 3 rfl) (h_fz hn 3)]
  simp [go_sem]
section
variable {E : Ev} {md : Option Bool} {w : World}
/-- All that the walk of printf asks of its world. -/
structure PrfN (E : Ev) (md : Option Bool) (w : World) (sa : List ByteArray) (tk : Nat) (lv ov : Value) (w1 : World) (g : Nat) (f : ByteArray) (args : List ByteArray) (l0 : List Pc) (TO : List UInt8) (Bd : List ByteArray) : Prop where
  ps : PS E md w (s0 []) []
  tkn : TkN w1 tk E.G.p lv ov 0 false 1 false
  arg : w.ownsRow 0 9 1 E.G.args (bz prName :: sa).length ((bz prName :: sa).map .string)
  wd : w.cell? ⟨6, 25, none⟩ = some (.string (bz notNum))
  gl : GlT w
  tab : TabD w ∧ ErS w
  env : EnvN E w sa Bd
  h1 : w.heap.size ≤ tk
  bel : Below w.heap.size w w1
  og : w.heap.size ≤ g ∧ g < w1.heap.size ∧ g ≠ tk
  ops : ArgsIn w1 g ov (f :: args)
  rd : piecesS f.data.toList = some l0
  okf : okF f.data.toList = true
  cv : ∀ x ∈ l0, x.letter = 0 ∨ OkPc x
  fz : f.size ≤ 4096
  ok : OkAll (mergeP [] l0) (args.length + 1) args
  all : allS (mergeP [] l0) (args.length + 1) args = (TO, Bd)
  len : args.length ≤ 2097151
  siz : ∀ a ∈ args, a.size ≤ 2097152
  toz : TO.length ≤ 4194304
  to0 : TO ≠ []
  c0 : Bd = [] → E.c0 = .write false TO
/-- The printer is made. -/
theorem PrfN.pass {sa : List ByteArray} {tk : Nat} {lv ov : Value} {w1 W1 w2 : World} {g : Nat} {f : ByteArray} {args : List ByteArray} {l0 : List Pc} {TO : List UInt8} {Bd : List ByteArray} (h : PrfN E md w sa tk lv ov w1 g f args l0 TO Bd) {pv av : Value} {S0 : List Nat} {W3 : World} (hB1 : Below w1.heap.size w1 W1) (hz1 : W1.heap.size = w1.heap.size + 1) (htb : W1.heap[w1.heap.size]? = some (.cells #[ptr tk] 174)) (hB2 : Below W1.heap.size W1 w2) (hpt : PartsIn w2 S0 pv (mergeP [] l0)) (hS0 : ∀ b ∈ S0, W1.heap.size ≤ b ∧ b < w2.heap.size) (hB3 : Below w2.heap.size w2 W3) (hz3 : W3.heap.size = w2.heap.size + 1) (hprt : PrtAt W3 w2.heap.size w1.heap.size av (.slice none 0 0) false) (hav : ArgsIn W3 g av args) :
    Pass w.heap.size w2.heap.size tk w1.heap.size g (tk :: w1.heap.size :: S0) S0 (McN E md w sa tk lv ov) W3 pv (mergeP [] l0) TO Bd W3 (args.length + 1) [] args [] av (.slice none 0 0) := by
  have s1 := h.bel.size
  have s2 := hB2.size
  have htkl := h_lt h.tkn
  obtain ⟨o1, o2, o3⟩ := h.og
  have hBw3 : Below w.heap.size w W3 := (h.bel.trans (hB1.mono s1)).trans ((hB2.mono (by omega)).trans (hB3.mono (by omega)))
  have hB13 : Below w1.heap.size w1 W3 := hB1.trans ((hB2.mono (by omega)).trans (hB3.mono (by omega)))
  have hT : Turn ([] : List Nat) w W3 := Turn.below hBw3
  have hgk : ∀ b ∈ gls, W3.heap[b]? = w.heap[b]? := fun b hb => hBw3.block b (h.env.g b (by simp [hb]))
  have hlt : ∀ b ∈ w2.heap.size :: g :: ((Value.slice none 0 0).ownBlock.toList ++ (tk :: w1.heap.size :: S0)), w.heap.size ≤ b ∧ b < W3.heap.size := fun b hb => by
    simp only [Value.ownBlock, Option.toList_none, List.nil_append, List.mem_cons] at hb
    rcases hb with rfl | rfl | rfl | rfl | hb
    · omega
    · omega
    · have := h.h1; omega
    · omega
    · have := hS0 b hb; omega
  have hall := h.all
  refine ⟨⟨hprt, hav, World.ownsRow_nil _ _ _ _, fun b e => (by cases e), ⟨by simp, hlt, hBw3.size, ⟨h.tab.1.kept hgk hBw3.size, h.tab.2.kept hgk⟩, .inl ⟨rfl, h.ps.own hT (by simp) (fun b hb => .inr (hlt b hb)), (hB13.block tk htkl).trans h.tkn, own_turn h.arg hT (by simp), hT.cell h.wd (by simp), h.gl.kept hgk, kept_of (Kept.refl [] w) hT⟩⟩, ⟨by omega, fun e => ?_, fun e => ?_⟩, ((hB2.trans (hB3.mono s2)).block _ (by omega)).trans htb, by simp, by simp, by omega⟩, hpt.keep (S := tk :: w1.heap.size :: S0) (tk := tk) (fun b hb => ⟨by simp [hb], by have := hS0 b hb; omega⟩) (KeepS.below hB3), h.ok, by rw [hall]; rfl, by rw [hall]; rfl, KeepS.below (Below.refl _ _), h.len, h.siz⟩
  · simp only [List.mem_cons] at e
    rcases e with e | e | e
    · omega
    · omega
    · have := hS0 _ e; omega
  · simp only [List.mem_cons] at e
    rcases e with e | e | e
    · omega
    · omega
    · have := hS0 _ e; omega
end
end Go.Proofs.YteimilnecahifaaGreatDoor.Nm

namespace Go.Proofs.YteimilnecahifaaGreatDoor.Nm
open Go.Proofs.YteimilnecahifaaGreatDoor Go.Proofs.YteimilnecahifaaGreatDoor.Op
open Go.RowKit

theorem by_row {w : World} {B : Nat} {v : Value} {l : List UInt8} (h : Row w B v l) : ByAt w v l := by
  rcases h.2 with ⟨rfl, h0⟩ | ⟨g, cap, cur, rfl, hb, hg, hle, hcm, hcs, htk⟩
  · exact .inl ⟨rfl, List.length_eq_zero_iff.1 h0⟩
  · refine .inr ⟨g, 0, cap, rfl, ⟨hle, by unfold maxLen at hcm; omega⟩, h_lt hg, fun j hj => ?_⟩
    have := h.cells (g := g) rfl j (.int .u8 (l[j].toNat : Int)) (by simp [u8s, hj])
    rw [Addr.add_lit] at this
    simpa [hj] using this
section
variable {E : Ev} {md : Option Bool} {w : World}
/-- What is told at the end. -/
theorem tell_end {sa : List ByteArray} {tk pr tb g : Nat} {lv ov av tv : Value} {w1 w4 : World} {f : ByteArray} {args args' : List ByteArray} {l0 : List Pc} {TO : List UInt8} {Bd : List ByteArray} {S : List Nat} (h : PrfN E md w sa tk lv ov w1 g f args l0 TO Bd) (hp : Pst w.heap.size pr tk tb g S (McN E md w sa tk lv ov) w4 Bd args' TO av tv) :
    Calls Tryz.prog 121 #[ptr tk, tv] w4 (fun e w2 => (e = .panicked waitsP ∧ UmOut E md [] (QP TO (Bd.map badLine).flatten (if Bd = [] then 0 else 1)) w (.panicked waitsP) w2) ∨ (∃ v st, e = .returned v ∧ w2.cell? ⟨tk, 3, none⟩ = some (.int .i64 st) ∧ UmOut E md [] (QP TO (Bd.map badLine).flatten (if Bd = [] then 0 else 1)) w (.returned (.int .i64 st)) w2)) := by
  have hby := by_row hp.row
  have htk : tk ∈ pr :: g :: (tv.ownBlock.toList ++ S) := hp.mc.mem
  have htv : ∀ b off n c, tv = .slice (some ⟨b, off, none⟩) n c → b ∈ pr :: g :: (tv.ownBlock.toList ++ S) := fun b off n c e => by
    rw [e]
    simp [Value.ownBlock]
  have hfl := h.env.fl
  have hto := h.toz
  rcases hp.mc.st with ⟨hb, hq⟩ | ⟨hb, hq⟩
  · have hc0 := h.c0 hb
    refine (tktell_c hq.ps hq.tk tv TO hby htv (by omega) (Nat.zero_le _) ⟨by show 0 + _ ≤ _; omega, by show 0 + _ ≤ _; omega⟩ (by show (0 : Int) + _ + _ < _; omega) (fun _ _ => hc0)).mono ?_
    rintro e w5 (⟨hmd, rfl, q1, q2, q3, S5, q4, q5⟩ | ⟨rfl, md', s', _, h7, h8, h9, hk, hn⟩)
    · exact .inl ⟨rfl, .inl ⟨hmd, rfl, q1, q2, q3, Kept.trans hq.kp ⟨S5, q4, by simp⟩⟩⟩
    · have e7 := h7 h.to0
      subst e7
      have hmn : md ≠ none := by
        rcases hn with e | e
        · rw [← e]; simp
        · exact e
      obtain ⟨o1, o2⟩ := wrote_out h8 rfl rfl
      have h3 := hk.ob hq.tk htk
      refine .inr ⟨_, 0, rfl, h_cell h3 3 rfl, .inr ⟨hmn, 0, s', rfl, h9.own (Turn.refl [] w5) (by simp) (by simp), Kept.trans hq.kp (hk.less (by simp)), ?_, o1, ?_⟩⟩
      · rw [if_pos hb]
      · rw [o2, hb]; rfl
  · obtain ⟨s', hw, hps⟩ := hq.ps
    obtain ⟨u, hk0, hu1, hu2, hst⟩ := hw.k
    have hko : s'.k.out = [] := by rw [hk0]; rfl
    have hke : s'.k.err = badLine xBad := by rw [hk0]; rfl
    have hku : s'.k.used = u := by rw [hk0]; rfl
    have hbl : (badLine xBad).length = 24 := by decide
    have hst2 : s'.steps ≤ 64 + (E.G.faults.length : Int) := by
      have h2 : (s0 []).steps = 0 := rfl
      have h3 : (s0 []).k.used = 0 := rfl
      rw [hbl, h2, h3] at hst
      omega
    refine (tktell_c hps hq.tk tv TO hby (fun b off n c e => by simp only [List.mem_append]; exact .inr (htv b off n c e)) (by omega) (by rw [hku]; exact hu2) ⟨by rw [hko]; simp; omega, by rw [hke, hbl]; omega⟩ (by omega) (fun _ e => absurd rfl e)).mono ?_
    rintro e w5 (⟨hmd, _⟩ | ⟨rfl, md', s2, _, h7, h8, h9, hk, hn⟩)
    · cases hmd
    · have e7 := h7 h.to0
      subst e7
      obtain ⟨u2, hk2, _⟩ := h8.k
      have h3 := hk.ob hq.tk (by simp only [List.mem_append]; exact .inr htk)
      have hne : Bd ≠ [] := by rw [hb]; simp
      refine .inr ⟨_, 1, rfl, h_cell h3 3 rfl, .inr ⟨hq.nn, 1, s2, rfl, h9.own (Turn.refl [] w5) (by simp) (by simp), Kept.trans hq.kp (hk.less (by simp)), ?_, ?_, ?_⟩⟩
      · rw [if_neg hne]
      · rw [hk2]; simp [KC.told, hko]
      · rw [hk2, hb]; simp [KC.told, hke]
end
end Go.Proofs.YteimilnecahifaaGreatDoor.Nm

namespace Go.Proofs.YteimilnecahifaaGreatDoor.Nm
open Go.Proofs.YteimilnecahifaaGreatDoor Go.Proofs.YteimilnecahifaaGreatDoor.Op
open Go.RowKit

section
variable {E : Ev} {md : Option Bool} {w : World}
set_option maxRecDepth 100000 in
set_option maxHeartbeats 8000000 in
theorem printf_do {sa : List ByteArray} {tk g : Nat} {lv ov : Value} {w1 : World} {f : ByteArray} {args : List ByteArray} {l0 : List Pc} {TO : List UInt8} {Bd : List ByteArray} (h : PrfN E md w sa tk lv ov w1 g f args l0 TO Bd) :
    Calls Tryz.prog 88 #[ptr tk] w1 (DoN E md (QP TO (Bd.map badLine).flatten (if Bd = [] then 0 else 1)) w tk) := by
  obtain ⟨Q, hQ⟩ : ∃ Q, Q = QP TO (Bd.map badLine).flatten (if Bd = [] then 0 else 1) := ⟨_, rfl⟩
  rw [← hQ]
  have HQ := Lib.hid hQ
  clear hQ
  obtain ⟨g', off, cap, rfl, hai, hc0, hcap1, hcap2⟩ := strs_cons h.ops.1
  have eg : g' = g := h.ops.2 _ _ _ _ rfl
  subst eg
  have hB1 : Below w1.heap.size w1 (w1.alloc (.cells #[ptr tk] 174)) := (Below.refl _ w1).alloc (Nat.le_refl _) _
  have hz1 : (w1.alloc (.cells #[ptr tk] 174)).heap.size = w1.heap.size + 1 := by simp
  have htb : (w1.alloc (.cells #[ptr tk] 174)).heap[w1.heap.size]? = some (.cells #[ptr tk] 174) := al_new _ _
  have H := Lib.hid (And.intro h hai)
  have hlen := h.len
  clear h
  go_enter Tryz.func88, Tryz.ntmps88
  go_upto_region 1 with fail
  generalize w1.alloc (.cells #[ptr tk] 174) = W1 at hB1 hz1 htb ⊢
  have htk1 := (hB1.block tk (h_lt H.out.1.tkn)).trans H.out.1.tkn
  have t2 : W1.cell? ⟨tk, 2, none⟩ = some (.slice (some ⟨g', off, none⟩) (args.length + 1) cap) := h_cell htk1 2 rfl
  have b0 : W1.cell? ⟨w1.heap.size, 0, none⟩ = some (ptr tk) := h_cell htb 0 rfl
  have c0 : W1.cell? ⟨g', off, none⟩ = some (.string f) := (hB1.cell (p := ⟨g', off, none⟩) (World.block_lt_of_cell? _ _ hc0)).trans hc0
  have hltk : tk < W1.heap.size := h_lt htk1
  have hltb := h_lt htb
  have hrf := readFormat_c H.out.1.rd H.out.1.okf H.out.1.cv H.out.1.fz W1
  rw [bz_of] at hrf
  have hne0 : ((args.length : Int) + 1 == 0) = false := by rw [beq_eq_false_iff_ne]; omega
  have HW := Lib.hid (And.intro hB1 (And.intro htb htk1))
  clear hc0 hB1 htk1 htb hai
  go_upto_region 6 with (go_at_call 117; refine hrf.mono ?_; rintro e w2 ⟨pv, S0, rfl, hpt, hS0, hB2⟩; have H2 := Lib.hid (And.intro hpt (And.intro hS0 hB2)); obtain ⟨a9, n9, c9, rfl⟩ : ∃ a n c, pv = .slice a n c := (by obtain ⟨pb, cp, e, _⟩ := hpt; exact ⟨_, _, _, e⟩); clear hpt hS0 hB2 hrf)
  have hB12 : Below w1.heap.size w1 w2 := HW.out.1.trans (H2.out.2.2.mono (by omega))
  have t2' : w2.cell? ⟨tk, 2, none⟩ = some (.slice (some ⟨g', off, none⟩) (args.length + 1) cap) := (H2.out.2.2.cell (p := ⟨tk, 2, none⟩) hltk).trans t2
  have b0' : w2.cell? ⟨w1.heap.size, 0, none⟩ = some (ptr tk) := (H2.out.2.2.cell (p := ⟨w1.heap.size, 0, none⟩) hltb).trans b0
  have hltk2 : tk < w2.heap.size := Nat.lt_of_lt_of_le hltk H2.out.2.2.size
  have hltb2 : w1.heap.size < w2.heap.size := Nat.lt_of_lt_of_le hltb H2.out.2.2.size
  obtain ⟨y, cy, hsl0, hav⟩ := slice_from_g (k := 1) (w := w2) (by simp) (H.out.2.turn (Turn.below (S := []) hB12) (by simp)) (by omega)
  have el : args.length + 1 - 1 = args.length := by omega
  rw [el] at hsl0 hav
  have hsl : ∀ u : World, (Instr.sliceAt 32 (.slice (some ⟨g', off, none⟩) (args.length + 1) cap) (some (.int .i64 1)) none none).run Tryz.prog u = .ok (.slice y args.length cy) u := hsl0
  have hsp := store_prt w2 (.slice y args.length cy) (.func 118) #[ptr w1.heap.size] 204
  have hB3 : Below w2.heap.size w2 (w2.alloc (.cells #[.slice y args.length cy, .slice none 0 0, .bool false, .func (.func 118) #[] #[ptr w1.heap.size]] 204)) := (Below.refl _ w2).alloc (Nat.le_refl _) _
  have hz3 : (w2.alloc (.cells #[.slice y args.length cy, .slice none 0 0, .bool false, .func (.func 118) #[] #[ptr w1.heap.size]] 204)).heap.size = w2.heap.size + 1 := by simp
  have hpr : PrtAt (w2.alloc (.cells #[.slice y args.length cy, .slice none 0 0, .bool false, .func (.func 118) #[] #[ptr w1.heap.size]] 204)) w2.heap.size w1.heap.size (.slice y args.length cy) (.slice none 0 0) false := al_new _ _
  have hav3 := hav.turn (Turn.below (S := []) hB3) (by simp)
  have hps := H.out.1.pass HW.out.1 hz1 HW.out.2.1 H2.out.2.2 H2.out.1 H2.out.2.1 hB3 hz3 hpr hav3
  have hgo := go_c (mach_n H.out.1.env) (fun b hb => ⟨by simp [hb], fun e => by
    have := (H2.out.2.1 b hb).1
    omega⟩) hps H.out.1.toz
  have HB3 := Lib.hid hB3
  clear t2 b0 c0 hltk hltb hsl0 hav hav3 hps hB3 hpr hne0 hB12
  go_upto_region 7 with fail
  clear hsp hsl
  have b3 : (w2.alloc (.cells #[.slice y args.length cy, .slice none 0 0, .bool false, .func (.func 118) #[] #[ptr w1.heap.size]] 204)).cell? ⟨w1.heap.size, 0, none⟩ = some (ptr tk) := (HB3.out.cell (p := ⟨w1.heap.size, 0, none⟩) hltb2).trans b0'
  clear t2' b0'
  go_wp2_with (first
    | (go_at_call 120; refine hgo.mono ?_; rintro e w4 (⟨rfl, hP⟩ | ⟨⟨v4, rfl⟩, args', av', tv', hst4, hK4⟩); (· exact ⟨rfl, .inl ⟨rfl, .inl hP⟩⟩); have e0 : w4.cell? ⟨w1.heap.size, 0, none⟩ = some (ptr tk) := h_cell hst4.tbx 0 rfl; have e1 : w4.cell? ⟨w2.heap.size, 1, none⟩ = some tv' := h_cell hst4.prt 1 rfl; obtain ⟨xt, nt, ct, rfl⟩ := row_sl hst4.row; have hlt4 := h_lt hst4.prt; have hltb4 := h_lt hst4.tbx; have htl := tell_end H.out.1 hst4; rw [← HQ.out] at htl; clear hst4 hK4 hgo b3)
    | (go_at_call 121; refine htl.mono ?_; rintro e w5 (⟨rfl, hU⟩ | ⟨v5, st, rfl, h3, hU⟩); (· exact ⟨rfl, .inl ⟨rfl, hU⟩⟩)))
  go_end0
  exact .inr ⟨_, st, rfl, h3, hU⟩
end
end Go.Proofs.YteimilnecahifaaGreatDoor.Nm
