/- What is asked of the program's options, and the walk of the first law over it. -/
import Derived.Maps.AppendAt
import Derived.Test.YtfkoehfkiommpaaGreatDoorYSame
import Derived.Laws.Strings
import Derived.Lib.ConvBytes
import Derived.Maps.OwnSet
namespace Go.Proofs.YtfkoehfkiommpaaGreatDoor.Op
open Go.RowKit

def codeOf (r : Option (Opts × List ByteArray)) : Int := match r with | none => 19 | some _ => 0
def optsOf (r : Option (Opts × List ByteArray)) : Opts := match r with | none => [] | some p => p.1
def restOf (r : Option (Opts × List ByteArray)) : List ByteArray := match r with | none => [] | some p => p.2

/-- Strings in memory of their own, or none. -/
def RestAt (w : World) (base : Nat) (v : Value) (o : List ByteArray) : Prop := StrsAt w v o ∧ (o = [] ∨ w.ownsRow base 9 1 v o.length (o.map .string))
/-- What the program's Parse is to answer. -/
def ToldC (w : World) (r : Option (Opts × List ByteArray)) (e : Ending) (w' : World) : Prop :=
  ∃ lv ov, e = .returned (.tuple #[lv, ov, .int .i64 (codeOf r)]) ∧ OptsAt w' w.heap.size lv (optsOf r) ∧ RestAt w' w.heap.size ov (restOf r)

structure Says : Prop where
  parse : ∀ (v : Value) (args : List ByteArray) (spec : ByteArray) (w : World), spec.size ≤ 2097152 → tot args ≤ 2097152 → args.length ≤ 2097152 → StrsAt w v args →
    Calls Tryz.prog 142 #[v, .string spec] w fun e w' => ToldC w (parseS spec [] args) e w' ∧ Below w.heap.size w w'
  has : ∀ (base : Nat) (v : Value) (l : Opts) (c : UInt8) (w : World), l.length ≤ 2097152 → OptsAt w base v l →
    Calls Tryz.prog 213 #[v, .int .u8 (c.toNat : Int)] w fun e w' => e = .returned (.bool (hasS l c)) ∧ Below w.heap.size w w'
  last : ∀ (base : Nat) (v : Value) (l : Opts) (c : UInt8) (w : World), l.length ≤ 2097152 → OptsAt w base v l →
    Calls Tryz.prog 234 #[v, .int .u8 (c.toNat : Int)] w fun e w' => e = .returned (lastV (lastS l c)) ∧ Below w.heap.size w w'
theorem own_below {w w' : World} {base e s n : Nat} {v : Value} {xs : List Value} (h : w.ownsRow base e s v n xs) (hb : Below w.heap.size w w') : w'.ownsRow base e s v n xs := by
  refine ⟨h.1, ?_⟩
  rcases h.2 with h | ⟨g, cap, cur, h1, h2, h3, h4⟩
  · exact .inl h
  · exact .inr ⟨g, cap, cur, h1, h2, (hb.block g (Array.getElem?_eq_some_iff.1 h3).1).trans h3, h4⟩
theorem RestAt.below {w w' : World} {base : Nat} {v : Value} {o : List ByteArray} (h : RestAt w base v o) (hb : Below w.heap.size w w') : RestAt w' base v o :=
  ⟨h.1.below hb, h.2.imp id fun h => own_below h hb⟩
theorem strs_own {w : World} {base : Nat} {v : Value} {o : List ByteArray} (h : w.ownsRow base 9 1 v o.length (o.map .string)) : StrsAt w v o := by
  rcases h.2 with ⟨rfl, h0⟩ | ⟨g, cap, cur, rfl, hb, hg, hle, hcap, hsz, ht⟩
  · exact .inl ⟨rfl, List.length_eq_zero_iff.1 h0⟩
  · refine .inr ⟨g, 0, cap, rfl, ⟨hle, by unfold maxLen at hcap; exact hcap⟩, (Array.getElem?_eq_some_iff.1 hg).1, fun j hj => ?_⟩
    have := own_cell2 h j (by omega)
    rw [Nat.zero_add, this, List.getElem?_map, nth]
    simp [hj]

theorem group_le (spec : ByteArray) : ∀ (g : List UInt8) (l : Opts) (rest : List ByteArray) (p : Opts × List ByteArray), groupS spec l g rest = some p → p.1.length ≤ l.length + g.length ∧ tot p.2 ≤ tot rest
  | [], l, rest, p, h => by simp only [groupS, Option.some.injEq] at h; rw [← h]; simp
  | c :: r, l, rest, p, h => by
    rw [groupS] at h
    split at h
    · cases h
    split at h
    · have := group_le spec r _ rest p h
      simp at this ⊢; omega
    split at h
    · simp only [Option.some.injEq] at h; rw [← h]; simp
    · cases rest with
      | nil => cases h
      | cons s rest => simp only [nextS, Option.some.injEq] at h; rw [← h]; simp [tot_cons]
theorem parse_le (spec : ByteArray) : ∀ (n : Nat) (l : Opts) (args : List ByteArray) (p : Opts × List ByteArray), args.length ≤ n → parseS spec l args = some p → p.1.length ≤ l.length + tot args ∧ p.2.length ≤ args.length
  | n, l, [], p, _, h => by rw [parseS_nil, Option.some.injEq] at h; rw [← h]; simp
  | n + 1, l, a :: rest, p, hn, h => by
    by_cases h1 : a = dashes
    · rw [parseS_dd _ _ _ _ h1, Option.some.injEq] at h; rw [← h]; simp
    by_cases h2 : a.size < 2 ∨ a.data.toList.head? ≠ some 45
    · rw [parseS_stop _ _ _ _ h1 h2, Option.some.injEq] at h; rw [← h]; simp
    rw [parseS_go _ _ _ _ h1 h2] at h
    cases hg : groupS spec l (a.data.toList.drop 1) rest with
    | none => rw [hg] at h; cases h
    | some q =>
      rw [hg] at h
      have h3 := groupS_le _ _ _ _ _ hg
      have h4 := group_le _ _ _ _ _ hg
      have h5 := parse_le spec n q.1 q.2 p (by simp at hn; omega) h
      have h6 : (a.data.toList.drop 1).length ≤ a.size := by rw [List.length_drop]; exact Nat.sub_le _ _
      rw [tot_cons]; simp; omega
theorem strs_one (l : List ByteArray) : ∀ u ∈ l.map Value.string, u.oneCell' = true := by
  intro u hu; obtain ⟨s, _, rfl⟩ := List.mem_map.1 hu; rfl
theorem strs_news {w : World} {b off n : Nat} {args : List ByteArray} (hc : ∀ j, j < n → w.cell? ⟨b, off + j, none⟩ = some (.string (nth args j))) (hn : args.length = n) : ∀ j u, (args.map Value.string)[j]? = some u → w.cell? ((⟨b, off, none⟩ : Addr).add j) = some u := by
  intro j u hu
  have hj : j < args.length := by have := (List.getElem?_eq_some_iff.1 hu).1; simpa using this
  rw [Addr.add_lit, hc j (by omega), ← hu, List.getElem?_map, nth]
  simp [hj]
/-- The world behind the two answers, from the world w2 in which 'own' lies. -/
structure Mid (w2 w' : World) (la lb va vb : Value) (l : Opts) (o : List ByteArray) : Prop where
  a : ∃ base, OptsAt w' base la l
  b : ∃ base, OptsAt w' base lb l
  c : RestAt w' w2.heap.size va o
  d : StrsAt w' vb o
  bl : Below w2.heap.size w2 w'
theorem Mid.below {w2 w' w'' : World} {la lb va vb : Value} {l : Opts} {o : List ByteArray} (h : Mid w2 w' la lb va vb l o) (hb : Below w'.heap.size w' w'') : Mid w2 w'' la lb va vb l o :=
  ⟨let ⟨x, hx⟩ := h.a; ⟨x, own_below hx hb⟩, let ⟨x, hx⟩ := h.b; ⟨x, own_below hx hb⟩, h.c.below hb, h.d.below hb, h.bl.trans (hb.mono h.bl.size)⟩
theorem below_new {w w' : World} {o : Obj} (h : Below (w.alloc o).heap.size (w.alloc o) w') : Below w.heap.size w w' :=
  ((Below.refl w.heap.size w).alloc (Nat.le_refl _) o).trans (h.mono (by simp))
end Go.Proofs.YtfkoehfkiommpaaGreatDoor.Op

namespace Go.Proofs.YtfkoehfkiommpaaGreatDoor.Op
open Go.RowKit

theorem parseS_to {spec : ByteArray} {l : Opts} {a : ByteArray} {rest : List ByteArray} {p : Opts × List ByteArray} (h : a ≠ dashes) (h2 : ¬ (a.size < 2 ∨ a.data.toList.head? ≠ some 45)) (hg : groupS spec l (a.data.toList.drop 1) rest = some p) : parseS spec l (a :: rest) = parseS spec p.1 p.2 := by rw [parseS_go _ _ _ _ h h2, hg]; rfl
end Go.Proofs.YtfkoehfkiommpaaGreatDoor.Op

namespace Go.Proofs.YtfkoehfkiommpaaGreatDoor.Op

def spec7 : ByteArray := ⟨#[97, 98, 99, 110, 58, 109, 58]⟩
def dash (c : UInt8) : ByteArray := ⟨#[45, c]⟩
def alone (g : List UInt8) : Opts := g.map fun c => (c, ⟨#[]⟩)
def IsAbc (c : UInt8) : Prop := c = 97 ∨ c = 98 ∨ c = 99

theorem kind_abc {c : UInt8} (h : IsAbc c) : kindS spec7 c = 1 := by rcases h with rfl | rfl | rfl <;> decide
theorem dash_ne {c : UInt8} (h : c ≠ 45) : dash c ≠ dashes := by
  intro e
  have : #[45, c] = #[45, 45] := congrArg ByteArray.data e
  simp at this
  exact h this
theorem dash_is (c : UInt8) : ¬ ((dash c).size < 2 ∨ (dash c).data.toList.head? ≠ some 45) := by
  intro h
  rcases h with h | h
  · exact absurd h (by show ¬ (2 < 2); omega)
  · exact h rfl
theorem parse_alone {c : UInt8} (h : IsAbc c) (l : Opts) (rest : List ByteArray) : parseS spec7 l (dash c :: rest) = parseS spec7 (l ++ [(c, ⟨#[]⟩)]) rest := by
  refine parseS_to (p := (l ++ [(c, ⟨#[]⟩)], rest)) (dash_ne (by rcases h with rfl | rfl | rfl <;> decide)) (dash_is c) ?_
  show groupS spec7 l [c] rest = _
  rw [groupS, if_neg (by rw [kind_abc h]; decide), if_pos (kind_abc h), groupS]
theorem tot_append (a b : List ByteArray) : tot (a ++ b) = tot a + tot b := by simp [tot]
/-- What the letters come to: options apart, those of them that stand in a group, what is told of them, how many arguments were used. -/
structure Built (args ap : List ByteArray) (g : List UInt8) (wn : Opts) (n : Nat) : Prop where
  parse : ∀ (l : Opts) (rest : List ByteArray), parseS spec7 l (ap ++ rest) = parseS spec7 (l ++ wn) rest
  abc : ∀ c ∈ g, IsAbc c
  zero : n = 0 → wn = alone g
  size : ap.length ≤ 2 * wn.length ∧ tot ap ≤ 2 * wn.length + tot (args.take n) ∧ n ≤ args.length ∧ g.length ≤ wn.length
theorem Built.nil (args : List ByteArray) : Built args [] [] [] 0 := ⟨fun l rest => by rw [List.nil_append, List.append_nil], fun c hc => (by cases hc), fun _ => rfl, by simp [tot]⟩
theorem Built.alone {args ap : List ByteArray} {g : List UInt8} {wn : Opts} {n : Nat} (c : UInt8) (hc : IsAbc c) (h : Built args ap g wn n) : Built args (ap ++ [dash c]) (g ++ [c]) (wn ++ [(c, ⟨#[]⟩)]) n := by
  refine ⟨fun l rest => ?_, fun d hd => ?_, fun hn => ?_, ?_⟩
  · rw [List.append_assoc, h.parse, List.singleton_append, parse_alone hc, List.append_assoc]
  · rcases List.mem_append.1 hd with hd | hd
    · exact h.abc d hd
    · rw [List.mem_singleton.1 hd]; exact hc
  · rw [h.zero hn]; simp [Go.Proofs.YtfkoehfkiommpaaGreatDoor.Op.alone]
  · have ih := h.size
    have e : (dash c).size = 2 := rfl
    rw [tot_append, List.length_append, List.length_append, List.length_append]
    simp only [List.length_singleton, tot_cons, e, show tot [] = 0 from rfl]; omega
end Go.Proofs.YtfkoehfkiommpaaGreatDoor.Op

namespace Go.Proofs.YtfkoehfkiommpaaGreatDoor.Op
open Go.RowKit

theorem run_append_none (ty : TypeId) (b : Option Addr) (n cap : Nat) (h : n ≤ cap) (w : World) : (Builtin.append_ #[31, 31] ty #[.slice b n cap, .slice none 0 0]).run Tryz.prog w = .ok (.slice b n cap) w := by
  have z := Tryz.sizeOf9
  cases b with
  | none => simp [Builtin.append_, go_sem, z, Builtin.lenOf, Builtin.firstCells, h]
  | some a => simp [Builtin.append_, go_sem, z, Builtin.lenOf, Builtin.firstCells, h, storeCells]
/-- Strings onto strings of one's own. -/
theorem wpList_append_strs {w : World} {ops : Array Oper} {rest : List Oper} {o : Oper} {a : Act} {Q : Exit → Act → World → Prop} (hgd : o.guard = none) (s x : Operand)
    (ho : o.op = .call { callee := .builtin .append, args := #[s, x], argTypes := #[31, 31] }) (base : Nat) (v : Value) (n : Nat) (xs : List Value) (hs : a.eval s = v) (hown : w.ownsRow base 9 1 v n xs)
    (vo : Value) (l : List ByteArray) (hx : a.eval x = vo) (hl : StrsAt w vo l) (hb1 : n + l.length ≤ 2097152) (hbase : base ≤ w.heap.size)
    (h : ∀ v' w', w'.ownsRow base 9 1 v' (n + l.length) (xs ++ l.map .string) → w.grownBy w' v.ownBlock → wpList Tryz.prog ops Q rest (a.put o.dst v') w') : wpList Tryz.prog ops Q (o :: rest) a w := by
  obtain ⟨j0, ji, jz0, jz1, jz2⟩ := info_parts2 info_str
  rcases hl with ⟨rfl, rfl⟩ | ⟨b, off, cap, rfl, hcap, hb, hc⟩
  · refine wpList_plain hgd fun _ hK => ?_
    have hsl : ∃ b cap, v = .slice b n cap ∧ n ≤ cap := by
      rcases hown.2 with ⟨rfl, rfl⟩ | ⟨g, cap, cur, rfl, _, _, hle, _⟩
      · exact ⟨none, 0, rfl, Nat.le_refl _⟩
      · exact ⟨_, cap, rfl, hle⟩
    obtain ⟨b, cap, rfl, hle⟩ := hsl
    unfold Oper.wp execOp
    simp only [ho, resolve, invoke, builtin, Sem.run_bind, Sem.run_pure, Result.andThen_ok, List.map_toArray, List.map_cons, List.map_nil, hs, hx, run_append_none _ b n cap hle w]
    exact hK _ _ (h _ w (by simpa using hown) ⟨rfl, rfl, rfl, Nat.le_refl _, fun _ _ _ => rfl⟩)
  · exact wpList_append_own w hgd s x 31 ho base 9 j0 (.string ⟨#[]⟩) 1 16 Tryz.underlying31 ji jz0 jz1 jz2 rfl (by decide) v n xs hs hown ⟨b, off, none⟩ l.length cap (l.map .string) hx (by rw [List.length_map, Nat.mul_one]) (strs_news hc rfl) (strs_one l) (by unfold maxLen; omega) (by omega) hbase (fun v' w' h1 h2 _ => h v' w' h1 h2)
end Go.Proofs.YtfkoehfkiommpaaGreatDoor.Op

namespace Go.Proofs.YtfkoehfkiommpaaGreatDoor.Op
open Go.RowKit Go.Maps

/-- An element is told as the value that it is. -/
def Rh (v : Value) : Option (DataW Value × List MemPlace) := some (.held v, [])
def KeyB (c : UInt8) : Lit := .int .u8 (c.toNat : Int)
theorem keyB_inj {c d : UInt8} (h : KeyB c = KeyB d) : c = d := by
  have : (c.toNat : Int) = (d.toNat : Int) := by simpa [KeyB] using h
  exact UInt8.toNat_inj.1 (by omega)
theorem keyB_wf (c : UInt8) : (KeyB c).wf = true := by
  have := c.toNat_lt
  simp [KeyB, Lit.wf, IntKind.min, IntKind.max, IntKind.signed, IntKind.bits]; omega
theorem keyedB : Keyed Tryz.prog 5 := int_keyed Tryz.underlying5
theorem keyB_key (c : UInt8) : WideAt.IsKeyLit (KeyB c) := by simp [WideAt.IsKeyLit, KeyB]

/-- A map of at most n entries, that holds for a byte what f tells. -/
def MapAt (w : World) (b n : Nat) (f : UInt8 → Option Value) : Prop :=
  ∃ D : DataW Value, w.ownsMap Tryz.prog 5 Rh b n D ∧ IsMap D ∧ ∀ c, Maps.has D (KeyB c) = (f c).isSome ∧ ∀ z, D.atKey (KeyB c) (.held z) = .held ((f c).getD z)
theorem MapAt.made (w : World) : MapAt (w.alloc (.map #[] 0)) w.heap.size 0 (fun _ => none) :=
  ⟨_, World.ownsMap_made w Tryz.prog 5 Rh, isMap_empty, fun c => ⟨rfl, fun z => by simp [DataW.atKey]⟩⟩
theorem MapAt.kept {w w' : World} {b n : Nat} {f : UInt8 → Option Value} {row : Option Nat} (h : MapAt w b n f) (hg : w.grownBy w' row) (hne : some b ≠ row) : MapAt w' b n f :=
  let ⟨D, h1, h2⟩ := h; ⟨D, h1.kept hg hne, h2⟩
theorem MapAt.lt {w : World} {b n : Nat} {f : UInt8 → Option Value} (h : MapAt w b n f) : b < w.heap.size := let ⟨_, h1, _⟩ := h; h1.lt
theorem MapAt.below {w w' : World} {b n : Nat} {f : UInt8 → Option Value} (h : MapAt w b n f) (hb : Below w.heap.size w w') : MapAt w' b n f :=
  h.kept (row := none) ⟨hb.os, hb.tape, hb.output, hb.size, fun k hk _ => hb.block k hk⟩ (by simp)
/-- 'v, ok := m[c]'. -/
theorem MapAt.look {w : World} {b n : Nat} {f : UInt8 → Option Value} (h : MapAt w b n f) {t e : TypeId} (ht : Tryz.prog.underlying t = some (.map 5 e)) {z : Value} (hz : (zeroValue e).run Tryz.prog w = .ok z w) (c : UInt8) :
    (Instr.lookup t (.map (some b)) (.int .u8 (c.toNat : Int)) true).run Tryz.prog w = .ok (.tuple #[(f c).getD z, .bool (f c).isSome]) w := by
  obtain ⟨D, h1, _, h3⟩ := h
  obtain ⟨v, ps, hr, hv⟩ := h1.look_ok keyedB ht hz (zd := .held z) (zp := []) rfl (keyOf_int_mk Tryz.underlying5 (keyB_wf c))
  rw [show (Lit.int .u8 (c.toNat : Int)) = KeyB c from rfl, (h3 c).2 z] at hv
  have e1 : v = (f c).getD z := by
    simp only [Rh, Option.some.injEq, Prod.mk.injEq, DataW.held.injEq] at hv; exact hv.1
  rw [hr, e1, show (Lit.int .u8 (c.toNat : Int)) = KeyB c from rfl, (h3 c).1]
/-- 'm[c]'. -/
theorem MapAt.look1 {w : World} {b n : Nat} {f : UInt8 → Option Value} (h : MapAt w b n f) {t e : TypeId} (ht : Tryz.prog.underlying t = some (.map 5 e)) {z : Value} (hz : (zeroValue e).run Tryz.prog w = .ok z w) (c : UInt8) :
    (Instr.lookup t (.map (some b)) (.int .u8 (c.toNat : Int)) false).run Tryz.prog w = .ok ((f c).getD z) w := by
  obtain ⟨D, h1, _, h3⟩ := h
  obtain ⟨v, ps, hr, hv⟩ := h1.lookup keyedB ht hz (zd := .held z) (zp := []) rfl (keyOf_int_mk Tryz.underlying5 (keyB_wf c))
  rw [show (Lit.int .u8 (c.toNat : Int)) = KeyB c from rfl, (h3 c).2 z] at hv
  have e1 : v = (f c).getD z := by
    simp only [Rh, Option.some.injEq, Prod.mk.injEq, DataW.held.injEq] at hv; exact hv.1
  rw [hr, e1]
/-- 'm[c] = v'. -/
theorem MapAt.put {w : World} {b n : Nat} {f : UInt8 → Option Value} (h : MapAt w b n f) {t e : TypeId} (ht : Tryz.prog.underlying t = some (.map 5 e)) (hn : n < maxLen) (c : UInt8) (v : Value) :
    ∃ w', (Instr.mapUpdate t (.map (some b)) (.int .u8 (c.toNat : Int)) v).run Tryz.prog w = .ok () w' ∧ MapAt w' b (n + 1) (fun d => if d = c then some v else f d) ∧ w.grownBy w' (some b) := by
  obtain ⟨D, h1, h2, h3⟩ := h
  obtain ⟨w', hr, ho, hg⟩ := h1.update keyedB ht hn (key := .int .u8 (c.toNat : Int)) (val := v) (d := .held v) (ps := []) (keyOf_int_mk Tryz.underlying5 (keyB_wf c)) rfl
  refine ⟨w', hr, ⟨_, ho, ho.isMap, fun d => ?_⟩, hg⟩
  rw [show (Lit.int .u8 (c.toNat : Int)) = KeyB c from rfl]
  by_cases hd : d = c
  · subst hd
    rw [has_put_same h2 (keyB_key d)]
    refine ⟨by simp, fun z => ?_⟩
    rw [atKey_put_same h2 (keyB_key d)]; simp
  · have hne : KeyB d ≠ KeyB c := fun e => hd (keyB_inj e)
    simp only [has_put_other hne, if_neg hd]
    exact ⟨(h3 d).1, fun z => by rw [atKey_put_other hne]; exact (h3 d).2 z⟩
end Go.Proofs.YtfkoehfkiommpaaGreatDoor.Op

namespace Go.Proofs.YtfkoehfkiommpaaGreatDoor.Op
open Go.RowKit Go.Maps

theorem head_false {s : ByteArray} {c : UInt8} (h : s.size = 0) : s.data.toList.head? ≠ some c := by
  have : s.data.toList = [] := List.eq_nil_of_length_eq_zero h
  rw [this]; simp
theorem head_at {s : ByteArray} (h : 0 < s.size) : s.data.toList.head? = some s[0] := by
  have := by_drop s 0 h
  rw [List.drop_zero] at this
  rw [this]; rfl
theorem one_toList (s : ByteArray) (h : 0 < s.size) : (s.extract 0 1).toList = [s[0]] := by
  have e : s.extract 0 1 = ⟨#[s[0]]⟩ := by
    apply ByteArray.ext
    rw [ByteArray.data_extract]
    have h1 : (s.data.extract 0 1).size = 1 := by simp; omega
    apply Array.ext (by rw [h1]; rfl)
    intro i hi hi2
    have : i = 0 := by simp at hi2; omega
    subst this
    simp; rfl
  rw [e, ByteArray.toList_eq]

set_option maxHeartbeats 1000000 in
theorem pref_c (s : ByteArray) (c : UInt8) (w : World) (hs : s.size ≤ 4194304) :
    Calls Tryz.prog 121 #[.string s, .string ⟨#[c]⟩] w fun e w' => e = .returned (.bool (decide (s.data.toList.head? = some c))) ∧ w' = w := by
  have h1 : (⟨#[c]⟩ : ByteArray).size = 1 := rfl
  by_cases h0 : 0 < s.size
  · have e1 := one_toList s h0
    have e2 := head_at h0
    have e3 : (⟨#[c]⟩ : ByteArray).toList = [c] := by rw [ByteArray.toList_eq]
    go_enter Tryz.func121, Tryz.ntmps121
    go_wp2
    go_ret
    rw [e2]
    exact ⟨by show Ending.returned (.bool (s[0] == c)) = _; by_cases h : s[0] = c <;> simp [h], rfl⟩
  · have e2 := head_false (c := c) (show s.size = 0 by omega)
    go_enter Tryz.func121, Tryz.ntmps121
    go_wp2
    go_ret
    exact ⟨rfl, rfl⟩
theorem pref2_c (s : ByteArray) (c : UInt8) (w : World) (hs : s.size ≤ 4194304) :
    Calls Tryz.prog 211 #[.string s, .string ⟨#[c]⟩] w fun e w' => e = .returned (.bool (decide (s.data.toList.head? = some c))) ∧ w' = w := by
  go_enter Tryz.func211, Tryz.ntmps211
  go_wp2_with (go_at_call 121; refine (pref_c s c w hs).mono ?_; rintro e w1 ⟨rfl, rfl⟩)
  go_ret
  exact ⟨rfl, rfl⟩

/-- An argument that is an operand. -/
abbrev IsOp (a : ByteArray) : Prop := a.size < 2 ∨ a.data.toList.head? ≠ some 45
theorem isOp_dash {a : ByteArray} (h : (a.toList == [45]) = true) : IsOp a := by
  have : a.toList = [45] := by simpa using h
  rw [ByteArray.toList_eq] at this
  refine .inl ?_
  have e : a.size = a.data.toList.length := rfl
  rw [e, this]; decide
theorem isOp_head {a : ByteArray} (h : (a.toList == [45]) = false) (h2 : a.data.toList.head? = some 45) : ¬ IsOp a := by
  have h1 : a.data.toList ≠ [45] := by
    rw [beq_eq_false_iff_ne, ByteArray.toList_eq] at h; exact h
  intro ho
  rcases ho with ho | ho
  · have e : a.size = a.data.toList.length := rfl
    rw [e] at ho
    generalize a.data.toList = l at *
    match l, h1, h2, ho with
    | [x], h1, h2, _ => simp at h2; subst h2; exact h1 rfl
    | _ :: _ :: _, _, _, ho => simp at ho; omega
  · exact ho h2

set_option maxHeartbeats 1000000 in
theorem isOp_c (a : ByteArray) (w : World) (hs : a.size ≤ 4194304) :
    Calls Tryz.prog 179 #[.string a] w fun e w' => e = .returned (.bool (decide (IsOp a))) ∧ w' = w := by
  cases h1 : (a.toList == [45]) with
  | true =>
    have ho := isOp_dash h1
    go_enter Tryz.func179, Tryz.ntmps179
    go_wp2
    go_ret
    exact ⟨by simp [ho], rfl⟩
  | false =>
    by_cases h2 : a.data.toList.head? = some 45
    · have ho := isOp_head h1 h2
      go_enter Tryz.func179, Tryz.ntmps179
      go_wp2_with (go_at_call 211; refine (pref2_c a 45 w hs).mono ?_; rintro e w1 ⟨rfl, rfl⟩)
      go_ret
      exact ⟨by simp [ho], rfl⟩
    · have ho : IsOp a := .inr h2
      go_enter Tryz.func179, Tryz.ntmps179
      go_wp2_with (go_at_call 211; refine (pref2_c a 45 w hs).mono ?_; rintro e w1 ⟨rfl, rfl⟩)
      go_ret
      exact ⟨by simp [ho], rfl⟩

set_option maxHeartbeats 1000000 in
set_option maxRecDepth 100000 in
theorem last_c (base : Nat) (v : Value) (l : Opts) (c : UInt8) (w : World) (hl : l.length ≤ 2097152) (hO : OptsAt w base v l) :
    Calls Tryz.prog 234 #[v, .int .u8 (c.toNat : Int)] w fun e w' => e = .returned (lastV (lastS l c)) ∧ w' = w := by
  obtain ⟨xa, cap, rfl⟩ := own_slice2 hO
  unfold OptsAt at hO
  have HR := Lib.hid (show lastS l c = lastS (l.take l.length) c from by rw [List.take_length])
  generalize lastS l c = R at HR ⊢
  generalize hn : l.length = n at hl hO HR ⊢
  have HO := Lib.hid hO
  have HN := Lib.hid hn
  clear hO hn
  go_enter Tryz.func234, Tryz.ntmps234
  go_wp2
  go_loop [6] (fun i => ∃ k : Nat, k ≤ n ∧ i = .int .i64 ((k : Int) - 1) ∧ Hid (R = lastS (l.take k) c)) (fun i => (intOf i + 1).toNat)
  case atStart => exact ⟨n, by omega, by go_num, HR⟩
  case round =>
    obtain ⟨k, hk, rfl, HI⟩ := hrel
    clear HR
    by_cases hlt : 0 < k
    · obtain ⟨k, rfl⟩ : ∃ j, k = j + 1 := ⟨k - 1, by omega⟩
      obtain ⟨g, rfl⟩ := own_some2 HO.out (by omega)
      obtain ⟨c0, c1⟩ := opt_cells HO.out HN.out.symm k (by omega)
      have HJ := HI.out
      rw [lastS_step l c k (by rw [HN.out]; omega)] at HJ
      clear HI
      generalize nthO l k = p at c0 c1 HJ
      obtain ⟨x, y⟩ := p
      have hkk : ((k + 1 : Nat) : Int) - 1 = (k : Int) := by omega
      rw [hkk]
      clear hkk
      by_cases hx : x = c
      · subst hx
        have hb : ((x.toNat : Int) == (x.toNat : Int)) = true := by simp
        have HJ' : Hid (R = some y) := by show R = _; rw [HJ]; simp
        clear HJ
        go_wp2
        go_ret2
        exact ⟨by have e := HJ'.out; subst e; rfl, rfl⟩
      · have hb : ((x.toNat : Int) == (c.toNat : Int)) = false := by rw [u8_beq]; simpa using hx
        have HJ' : Hid (R = lastS (l.take k) c) := by show R = _; rw [HJ]; simp [hx]
        clear HJ hx
        go_wp2
        exact ⟨⟨k, by omega, by go_num, HJ'⟩, by simp [intOf] <;> omega⟩
    · obtain rfl : k = 0 := by omega
      have HJ : Hid (R = none) := by
        have := HI.out
        exact this
      go_wp2
      go_ret2
      exact ⟨by have e := HJ.out; subst e; rfl, rfl⟩
theorem hasS_last (l : Opts) (c : UInt8) : hasS l c = (lastS l c).isSome := by
  unfold hasS lastS
  rw [Option.isSome_map]
  rw [← List.any_reverse (l := l)]
  exact (List.isSome_find? ..).symm
theorem has_c (base : Nat) (v : Value) (l : Opts) (c : UInt8) (w : World) (hl : l.length ≤ 2097152) (hO : OptsAt w base v l) :
    Calls Tryz.prog 213 #[v, .int .u8 (c.toNat : Int)] w fun e w' => e = .returned (.bool (hasS l c)) ∧ Below w.heap.size w w' := by
  have hlast : ∀ u : World, u = w → Calls Tryz.prog 234 #[v, .int .u8 (c.toNat : Int)] u fun e w' => e = .returned (lastV (lastS l c)) ∧ w' = u := fun u hu => by subst hu; exact last_c base v l c u hl hO
  have hh : lastV (lastS l c) = .tuple #[.string ((lastS l c).getD ⟨#[]⟩), .bool (hasS l c)] := by
    rw [hasS_last]
    cases lastS l c with
    | none => rfl
    | some s => rfl
  rw [hh] at hlast
  generalize hasS l c = R at hlast ⊢
  generalize (lastS l c).getD ⟨#[]⟩ = S at hlast
  clear hh
  obtain ⟨xa, cap, n, rfl⟩ : ∃ xa cap n, v = .slice xa n cap := let ⟨a, b, h⟩ := own_slice2 hO; ⟨a, b, _, h⟩
  go_enter Tryz.func213, Tryz.ntmps213
  go_wp2_with (go_at_call 234; refine (hlast _ rfl).mono ?_; rintro e w1 ⟨rfl, rfl⟩)
  go_ret
  exact ⟨rfl, Below.refl _ _⟩
end Go.Proofs.YtfkoehfkiommpaaGreatDoor.Op

namespace Go.Proofs.YtfkoehfkiommpaaGreatDoor.Op
open Go.RowKit Go.Maps

/-- What a map of letters holds behind the first k bytes of a spec. -/
def letF (spec : ByteArray) (k : Nat) (c : UInt8) : Option Value := if c = 58 ∨ c = 45 then none else if c ∈ spec.data.toList.take k then some (.int .i64 (kindL c spec.data.toList)) else none
theorem letF_all (spec : ByteArray) (c : UInt8) : letF spec spec.size c = if kindS spec c = 0 then none else some (.int .i64 (kindS spec c)) := by
  unfold letF kindS
  by_cases h : c = 58 ∨ c = 45
  · rw [if_pos h, if_pos h]; rfl
  · rw [if_neg h, if_neg h, List.take_of_length_le (show spec.data.toList.length ≤ spec.size from Nat.le_refl _)]
    by_cases hm : c ∈ spec.data.toList
    · rw [if_pos hm, if_neg (kindL_mem hm)]
    · rw [if_neg hm, if_pos (kindL_not hm)]
theorem letF_no {spec : ByteArray} {k : Nat} (h : k < spec.size) (hc : spec[k] = 58 ∨ spec[k] = 45) : letF spec (k + 1) = letF spec k := by
  funext c
  unfold letF
  by_cases h2 : c = 58 ∨ c = 45
  · rw [if_pos h2, if_pos h2]
  · rw [if_neg h2, if_neg h2, List.take_succ_eq_append_getElem (show k < spec.data.toList.length from h)]
    have : c ≠ spec[k] := fun e => h2 (by rw [e]; exact hc)
    have e : c ∈ spec.data.toList.take k ++ [spec.data.toList[k]'h] ↔ c ∈ spec.data.toList.take k := by
      rw [List.mem_append, List.mem_singleton]
      exact ⟨fun h => h.resolve_right this, .inl⟩
    simp only [e]
theorem letF_again {spec : ByteArray} {k : Nat} (h : k < spec.size) (hs : (letF spec k spec[k]).isSome = true) : letF spec (k + 1) = letF spec k := by
  funext c
  unfold letF at *
  by_cases h2 : c = 58 ∨ c = 45
  · rw [if_pos h2, if_pos h2]
  · rw [if_neg h2, if_neg h2, List.take_succ_eq_append_getElem (show k < spec.data.toList.length from h)]
    have hm : spec[k] ∈ spec.data.toList.take k := by
      by_cases h3 : spec[k] = 58 ∨ spec[k] = 45
      · rw [if_pos h3] at hs; cases hs
      · rw [if_neg h3] at hs
        by_cases h4 : spec[k] ∈ spec.data.toList.take k
        · exact h4
        · rw [if_neg h4] at hs; cases hs
    have e : c ∈ spec.data.toList.take k ++ [spec.data.toList[k]'h] ↔ c ∈ spec.data.toList.take k := by
      rw [List.mem_append, List.mem_singleton]
      exact ⟨fun h => h.elim id fun e => by rw [e]; exact hm, .inl⟩
    simp only [e]
theorem letF_new {spec : ByteArray} {k : Nat} (h : k < spec.size) (hc : ¬ (spec[k] = 58 ∨ spec[k] = 45)) :
    letF spec (k + 1) = fun d => if d = spec[k] then some (.int .i64 (kindL spec[k] spec.data.toList)) else letF spec k d := by
  funext c
  by_cases e : c = spec[k]
  · rw [if_pos e, e]
    unfold letF
    rw [if_neg hc, if_pos]
    rw [List.take_succ_eq_append_getElem (show k < spec.data.toList.length from h)]
    exact List.mem_append.2 (.inr (List.mem_singleton.2 rfl))
  · rw [if_neg e]
    unfold letF
    by_cases h2 : c = 58 ∨ c = 45
    · rw [if_pos h2, if_pos h2]
    · rw [if_neg h2, if_neg h2, List.take_succ_eq_append_getElem (show k < spec.data.toList.length from h)]
      have e3 : c ∈ spec.data.toList.take k ++ [spec.data.toList[k]'h] ↔ c ∈ spec.data.toList.take k := by
        rw [List.mem_append, List.mem_singleton]
        exact ⟨fun h => h.resolve_right e, .inl⟩
      simp only [e3]
theorem letF_val {spec : ByteArray} {k : Nat} (h : k < spec.size) (hs : (letF spec k spec[k]).isSome = false) (hc : ¬ (spec[k] = 58 ∨ spec[k] = 45)) : kindL spec[k] spec.data.toList = if (spec.data.toList.drop (k + 1)).head? = some 58 then 2 else 1 := by
  unfold letF at hs
  rw [if_neg hc] at hs
  have hm : spec[k] ∉ spec.data.toList.take k := fun hm => by rw [if_pos hm] at hs; cases hs
  rw [kindL_at spec[k] spec.data.toList k (fun j hj e => hm (by
    have := List.mem_iff_getElem?.2 ⟨j, (List.getElem?_take (l := spec.data.toList) (i := k) (j := j)).trans (by rw [if_pos hj]; exact e)⟩
    exact this)), by_drop spec k h, kindL, if_pos rfl]

theorem zeroKind (w : World) : (zeroValue 285).run Tryz.prog w = .ok (.int .i64 0) w := by kernel_rfl
theorem letF_kind {spec : ByteArray} {k : Nat} (h : k < spec.size) (hs : (letF spec k spec[k]).isSome = true) : ∃ m : Nat, m ≠ 0 ∧ m ≤ 2 ∧ letF spec k spec[k] = some (.int .i64 m) := by
  unfold letF at *
  by_cases h3 : spec[k] = 58 ∨ spec[k] = 45
  · rw [if_pos h3] at hs; cases hs
  · rw [if_neg h3] at hs ⊢
    by_cases h4 : spec[k] ∈ spec.data.toList.take k
    · rw [if_pos h4]
      exact ⟨_, kindL_mem (List.mem_of_mem_take h4), kindL_le _ _, rfl⟩
    · rw [if_neg h4] at hs; cases hs
theorem two_puts {f : UInt8 → Option Value} {c : UInt8} {v v' : Value} : (fun d => if d = c then some v' else (fun d => if d = c then some v else f d) d) = fun d => if d = c then some v' else f d := by
  funext d
  by_cases h : d = c <;> simp [h]

set_option maxHeartbeats 2000000 in
set_option maxRecDepth 100000 in
theorem letters_c (spec : ByteArray) (w : World) (hs : spec.size ≤ 2097152) :
    Calls Tryz.prog 178 #[.string spec] w fun e w' => e = .returned (.map (some w.heap.size)) ∧ (∃ n, MapAt w' w.heap.size n (letF spec spec.size)) ∧ Below w.heap.size w w' := by
  have HT := Lib.hid Tryz.underlying283
  have hmk : ∀ u : World, (Instr.makeMap 283 none).run Tryz.prog u = .ok (.map (some u.heap.size)) (u.alloc (.map #[] 0)) := fun _ => rfl
  go_enter Tryz.func178, Tryz.ntmps178
  go_wp2
  go_loopw [9] (fun i wr => ∃ (k n : Nat), k ≤ spec.size ∧ n ≤ 2 * k ∧ i = .int .i64 k ∧ Hid (MapAt wr w.heap.size n (letF spec k)) ∧ Below w.heap.size w wr) (fun i _ => spec.size - (intOf i).toNat)
  case atStart => exact ⟨0, 0, by omega, by omega, rfl, by have := MapAt.made w; rwa [show (fun _ => none) = letF spec 0 from funext fun c => by simp [letF]] at this, (Below.refl _ _).alloc (Nat.le_refl _) _⟩
  case round =>
    obtain ⟨k, n, hk, hn, rfl, HM, hbl⟩ := hrel
    by_cases hlt : k < spec.size
    · by_cases hc : spec[k] = 58 ∨ spec[k] = 45
      · have HM2 := HM.out
        rw [← letF_no hlt hc] at HM2
        have HM3 := Lib.hid HM2
        clear HM2
        rcases hc with h | h
        · have b1 : ((spec[k].toNat : Int) == 58) = true := by rw [h]; rfl
          clear h
          go_wp2
          exact ⟨⟨k + 1, n, by omega, by omega, by go_num, HM3, hbl⟩, by simp [intOf]; omega⟩
        · have b1 : ((spec[k].toNat : Int) == 58) = false := by rw [h]; rfl
          have b2 : ((spec[k].toNat : Int) == 45) = true := by rw [h]; rfl
          clear h
          go_wp2
          exact ⟨⟨k + 1, n, by omega, by omega, by go_num, HM3, hbl⟩, by simp [intOf]; omega⟩
      · have b1 : ((spec[k].toNat : Int) == 58) = false := u8_no 58 (by omega) (fun e => hc (.inl e))
        have b2 : ((spec[k].toNat : Int) == 45) = false := u8_no 45 (by omega) (fun e => hc (.inr e))
        have hlk := HM.out.look1 HT.out (zeroKind wr) spec[k]
        by_cases hso : (letF spec k spec[k]).isSome = true
        · have HM2 := HM.out
          rw [← letF_again hlt hso] at HM2
          have HM3 := Lib.hid HM2
          obtain ⟨m, hm0, hm2, hmm⟩ := letF_kind hlt hso
          rw [hmm, Option.getD_some] at hlk
          have b3 : ((m : Int) != 0) = true := by simp; omega
          clear HM2 hso hc hmm
          go_wp2
          exact ⟨⟨k + 1, n, by omega, by omega, by go_num, HM3, hbl⟩, by simp [intOf]; omega⟩
        · have hso' : (letF spec k spec[k]).isSome = false := by simpa using hso
          have hno : letF spec k spec[k] = none := by simpa using hso'
          rw [hno, Option.getD_none] at hlk
          have hval := letF_val hlt hso' hc
          have hnew := letF_new hlt hc
          obtain ⟨w2, hup, hm2, hg2⟩ := HM.out.put HT.out (by unfold maxLen; omega) spec[k] (.int .i64 1)
          have hbl2 : Below w.heap.size w w2 := hbl.grown hg2 hbl.size (fun j ej => by cases ej; exact Nat.le_refl _)
          have hpr := fun u => pref2_c (spec.extract (k + 1) spec.size) 58 u (by simp; omega)
          have hex : (spec.extract (k + 1) spec.size).data.toList = spec.data.toList.drop (k + 1) := by rw [by_tail]
          rw [hex] at hpr
          have hw1 : IntKind.i64.wrap ((k : Int) + 1) = (k : Int) + 1 := IntWalk.i64_in _ (by omega)
          by_cases hy : (spec.data.toList.drop (k + 1)).head? = some 58
          · rw [if_pos hy] at hval
            rw [hval] at hnew
            simp only [hy, decide_true] at hpr
            obtain ⟨w3, hup3, hm3, hg3⟩ := hm2.put HT.out (by unfold maxLen; omega) spec[k] (.int .i64 2)
            rw [two_puts] at hm3
            have HM3 : Hid (MapAt w3 w.heap.size (n + 1 + 1) (letF spec (k + 1))) := by show MapAt _ _ _ _; rw [hnew]; exact hm3
            have hbl3 : Below w.heap.size w w3 := hbl2.grown hg3 hbl2.size (fun j ej => by cases ej; exact Nat.le_refl _)
            clear hy hval hnew hm2 hg2 hso hso' hc hm3 hg3 hno hex
            go_wp2_with (go_at_call 211; refine (hpr _).mono ?_; rintro e w1 ⟨rfl, rfl⟩)
            exact ⟨⟨k + 1, n + 1 + 1, by omega, by omega, by go_num, HM3, hbl3⟩, by simp [intOf]; omega⟩
          · rw [if_neg hy] at hval
            rw [hval] at hnew
            simp only [hy, decide_false] at hpr
            have HM3 : Hid (MapAt w2 w.heap.size (n + 1) (letF spec (k + 1))) := by show MapAt _ _ _ _; rw [hnew]; exact hm2
            clear hy hval hnew hm2 hg2 hso hso' hc hno hex
            go_wp2_with (go_at_call 211; refine (hpr _).mono ?_; rintro e w1 ⟨rfl, rfl⟩)
            exact ⟨⟨k + 1, n + 1, by omega, by omega, by go_num, HM3, hbl2⟩, by simp [intOf]; omega⟩
    · obtain rfl : k = spec.size := by omega
      have hkI : ¬ ((spec.size : Int) < (spec.size : Int)) := by omega
      go_wp2
      go_ret
      exact ⟨rfl, ⟨n, HM.out⟩, hbl⟩
end Go.Proofs.YtfkoehfkiommpaaGreatDoor.Op
