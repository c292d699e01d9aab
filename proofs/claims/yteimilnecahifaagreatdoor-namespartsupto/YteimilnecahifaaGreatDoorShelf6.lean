/- A region that draws its order and ends with a store to a cell that it loads: behind that store nothing is asked of the world. -/
import Derived.Deep.RegionHeld3
import Derived.Test.YteimilnecahifaaGreatDoorNJob
import Derived.Test.YteimilnecahifaaGreatDoorNDir
import Derived.Shelf.Strings.Builder1
import Derived.Shelf.Strings.Builder2
import Derived.Shelf.Strings.OnBuilder
import Derived.Shelf.Strings.Trim
import Derived.Shelf.Small.Utf8
import Derived.Shelf.Small.Bits
import Derived.Shelf.Small.Strs
import Derived.Shelf.Small.Wraps
import Derived.Shelf.Strings.BuilderF
import Derived.Shelf.Utf8.RuneCount
import Derived.Shelf.Strings.Builder2Cap
import Derived.Shelf.Strconv.Itoa0
import Derived.Shelf.Strconv.Itoa1
import Derived.Shelf.LaysM
import Derived.Shelf.Strconv.Itoa2
import Derived.Shelf.Strconv.Itoa3
import Derived.Shelf.Strconv.Itoa4
import Derived.Shelf.Strconv.Clone
import Derived.Shelf.Strconv.SyntaxError
import Derived.Shelf.LaysC
import Derived.Shelf.Strconv.ToError
import Derived.Shelf.Strconv.Lower
import Derived.Shelf.Strconv.ParseUint10
import Derived.Shelf.Strconv.ParseUint10Empty
import Derived.Shelf.Strconv.ParseUint10Any
import Derived.Shelf.Pu.ParseUintPublic10
import Derived.Shelf.Pu.ErrVarParseUint
import Derived.Shelf.Strings.Search1
import Derived.Shelf.Strings.Search2
import Derived.Shelf.Strings.Search3
import Derived.Shelf.Strings.Cut
import Derived.Shelf.Strings.Count
import Derived.Shelf.Strings.Shaped
import Derived.Shelf.Strings.LastIndex
import Derived.Shelf.Strings.LastIndexAll
import Derived.Shelf.Strings.Prefix
import Derived.Shelf.Strings.Split
import Derived.Shelf.Strings.SplitShaped
import Derived.Shelf.Unicode.Latin
import Derived.Shelf.Unicode.Decode
import Derived.Shelf.Strings.Runes
import Derived.Shelf.Strings.RuneCount
import Derived.Shelf.Strings.IndexAny
import Derived.Shelf.Strings.AsciiSet
import Derived.Shelf.Strings.IndexAnyAll
import Derived.Shelf.Strings.Explode
import Derived.Shelf.Bits.Mul64
import Derived.Shelf.Strings.Repeat
import Derived.Shelf.Unicode.DecodeSlow
import Derived.Shelf.Unicode.DecodeAny
import Derived.Shelf.Unicode.DecodeLast
import Derived.Shelf.Unicode.CaseLookup
import Derived.Shelf.Unicode.CaseConvert
import Derived.Shelf.Unicode.CaseTo
import Derived.Shelf.Unicode.CaseLaid
import Derived.Shelf.Slices.Clone
import Derived.Shelf.Bytes.SlClone
import Derived.Shelf.SlicesE.Clone
import Derived.Test.YteimilnecahifaaGreatDoorProg
namespace Go.Proofs.YteimilnecahifaaGreatDoor.Re

section
variable {P : Program} {ops : Array Oper} {Q : Exit → Act → World → Prop} {md : Region.Mode} {S : World → Prop} {st : Nat}
/-- Whatever order is picked, and S holds behind every operation but st. -/
def wpAnyT (P : Program) (md : Region.Mode) (ops : Array Oper) (Q : Exit → Act → World → Prop) (S : World → Prop) (st : Nat) : Nat → Array Bool → Act → World → Prop
  | 0, listed, a, w => Region.ready md ops listed = [] ∧ Q .normal a w
  | fuel + 1, listed, a, w =>
    (Region.ready md ops listed = [] → Q .normal a w) ∧
    ∀ i ∈ Region.ready md ops listed, wpOp P ops Q i (fun a' w' => (i ≠ st → S w') ∧ wpAnyT P md ops Q S st fuel (listed.setIfInBounds i true) a' w') a w
theorem wpAny_of_tail : ∀ (fuel : Nat) (listed : Array Bool) (a : Act) (w : World), wpAnyT P md ops Q S st fuel listed a w → wpAny P md ops Q fuel listed a w
  | 0, _, _, _, h => h
  | fuel + 1, _, _, _, h => ⟨h.1, fun i hi => wpOp_mono (fun a' w' h' => wpAny_of_tail fuel _ a' w' h'.2) (h.2 i hi)⟩
/-- Whatever was carried out was let. -/
def shutB (md : Region.Mode) (ops : Array Oper) (listed : Array Bool) : Bool :=
  (List.range ops.size).all fun k => !listed.getD k true || ((ops[k]?).map (·.after.all fun e => !Region.binds md e || listed.getD e.on false)).getD true
/-- k waits for i. -/
def waitsB (md : Region.Mode) (ops : Array Oper) (i : Nat) : Nat → Nat → Bool
  | 0, _ => false
  | f + 1, k => ((ops[k]?).map (·.after.any fun e => Region.binds md e && (e.on == i || waitsB md ops i f e.on))).getD false
theorem shut_spec {listed : Array Bool} (h : shutB md ops listed = true) {k : Nat} {ok : Oper} (hk : ops[k]? = some ok) (hl : listed.getD k true = true) : ∀ e ∈ ok.after, Region.binds md e = true → listed.getD e.on false = true := by
  have hlt := (Array.getElem?_eq_some_iff.1 hk).1
  unfold shutB at h
  rw [List.all_eq_true] at h
  have := h k (List.mem_range.2 hlt)
  rw [hk, hl] at this
  simp only [Option.map_some, Option.getD_some, Bool.not_true, Bool.false_or] at this
  intro e he hb
  have h2 := (Array.all_eq_true_iff_forall_mem.1 this) e he
  rw [hb] at h2
  simpa using h2
theorem shut_set {listed : Array Bool} (h : shutB md ops listed = true) {j : Nat} (hj : j ∈ Region.ready md ops listed) : shutB md ops (listed.setIfInBounds j true) = true := by
  unfold shutB
  rw [List.all_eq_true]
  intro k hk
  cases hok : ops[k]? with
  | none => simp
  | some ok =>
    simp only [Option.map_some, Option.getD_some, Bool.or_eq_true, Bool.not_eq_true']
    by_cases hl : (listed.setIfInBounds j true).getD k true = true
    · refine .inr ?_
      rw [Array.all_eq_true_iff_forall_mem]
      intro e he
      by_cases hb : Region.binds md e = true
      · rw [hb]
        simp only [Bool.not_true, Bool.false_or]
        refine getD_set_true ?_
        by_cases e1 : j = k
        · subst e1
          obtain ⟨_, o, ho, hall⟩ := mem_ready.1 hj
          rw [hok] at ho
          cases ho
          exact hall e he hb
        · rw [getD_set_ne true e1] at hl
          exact shut_spec h hok hl e he hb
      · simp only [Bool.not_eq_true] at hb
        rw [hb]
        rfl
    · exact .inl (by simpa using hl)
theorem false_of {listed : Array Bool} {i : Nat} (h0 : listed.getD i true = false) (h1 : listed.getD i false = true) : False := by
  rcases Nat.lt_or_ge i listed.size with h' | h'
  · simp [h'] at h0 h1; rw [h0] at h1; cases h1
  · simp [Array.getElem?_eq_none h'] at h1
/-- What waits for something that was not carried out can't come up. -/
theorem waits_not {listed : Array Bool} {i : Nat} (hc : shutB md ops listed = true) (hi : listed.getD i true = false) : ∀ (f k : Nat), waitsB md ops i f k = true → ∀ ok, ops[k]? = some ok → ¬ ∀ e ∈ ok.after, Region.binds md e = true → listed.getD e.on false = true
  | 0, k, h, ok, _, _ => by cases h
  | f + 1, k, h, ok, hok, hall => by
    unfold waitsB at h
    rw [hok] at h
    simp only [Option.map_some, Option.getD_some] at h
    obtain ⟨e, he, hb⟩ := Array.any_eq_true'.1 h
    simp only [Bool.and_eq_true, Bool.or_eq_true, beq_iff_eq] at hb
    have h1 := hall e he hb.1
    rcases hb.2 with h2 | h2
    · rw [h2] at h1
      exact false_of hi h1
    · cases ho2 : ops[e.on]? with
      | none =>
        cases f with
        | zero => cases h2
        | succ f => unfold waitsB at h2; rw [ho2] at h2; cases h2
      | some o2 =>
        refine waits_not hc hi f e.on h2 o2 ho2 (shut_spec hc ho2 ?_)
        by_cases h3 : listed.getD e.on true = true
        · exact h3
        · exact (false_of (by simpa using h3) h1).elim
theorem wpAnyT_first {i f : Nat} {oi : Oper} {v : Value} (hi : ops[i]? = some oi) (hsel : ∀ (j : Nat) (o : Oper) cs b, ops[j]? = some o → o.op ≠ .select cs b)
    (hQ : ∀ c a w, Q (.panic c) (a.put oi.dst v) w → Q (.panic c) a w) (hne : i ≠ st) (hwt : waitsB md ops i f st = true) :
    ∀ (fuel : Nat) (listed : Array Bool) (a : Act) (w : World), shutB md ops listed = true →
      (∀ j oj, ops[j]? = some oj → j ≠ i → listed.getD j true = false → (∀ e ∈ oj.after, Region.binds md e = true → e.on ≠ i) → oi.apart ops oj = true) →
      i ∈ Region.ready md ops listed → YieldsIf P ops S oi v a → S w →
      wpAnyT P md ops Q S st fuel (listed.setIfInBounds i true) (a.put oi.dst v) w → wpAnyT P md ops Q S st (fuel + 1) listed a w := by
  intro fuel
  induction fuel with
  | zero =>
    intro listed a w _ _ hr hy hS H
    refine ⟨fun h => (by rw [h] at hr; cases hr), fun j hj => ?_⟩
    by_cases hji : j = i
    · subst hji; exact hy.wpOp hi hS ⟨fun _ => hS, H⟩
    · have := ready_mono hj hji
      rw [H.1] at this
      cases this
  | succ fuel ih =>
    intro listed a w hcl hfree hr hy hS H
    refine ⟨fun h => (by rw [h] at hr; cases hr), fun j hj => ?_⟩
    by_cases hji : j = i
    · subst hji; exact hy.wpOp hi hS ⟨fun _ => hS, H⟩
    · have h1 := H.2 j (ready_mono hj hji)
      obtain ⟨hjun, oj, hoj, hall⟩ := mem_ready.1 hj
      have hiun := (mem_ready.1 hr).1
      have hjst : j ≠ st := fun e => by
        subst e
        exact waits_not hcl hiun f j hwt oj hoj hall
      have hnot : ∀ e ∈ oj.after, Region.binds md e = true → e.on ≠ i := fun e he hb heq => by
        have h1 := hall e he hb
        rw [heq] at h1
        exact false_of hiun h1
      have h2 := wpOp_putIf hoj (hfree j oj hoj hji hjun hnot) (fun cs b => hsel i oi cs b hi) (fun cs b => hsel j oj cs b hoj) hQ hy h1
      have hfree' : ∀ k ok, ops[k]? = some ok → k ≠ i → (listed.setIfInBounds j true).getD k true = false →
          (∀ e ∈ ok.after, Region.binds md e = true → e.on ≠ i) → oi.apart ops ok = true := fun k ok hk hki hun hno => by
        refine hfree k ok hk hki ?_ hno
        by_cases hjk : j = k
        · subst hjk; exact hjun
        · rw [getD_set_ne true hjk] at hun; exact hun
      refine wpOp_mono (fun a' w' h3 => ⟨fun _ => h3.2.1 hjst, ih (listed.setIfInBounds j true) a' w' (shut_set hcl hj) hfree' (ready_mono hr (Ne.symm hji)) h3.1 (h3.2.1 hjst) ?_⟩) h2
      rw [Array.setIfInBounds_comm _ _ hji]
      exact h3.2.2
/-- Number i is taken first. f: how far st waits for i. -/
theorem wpAnyT_take {i : Nat} (f : Nat) {oi : Oper} {v : Value} {fuel : Nat} {listed : Array Bool} {a : Act} {w : World} (hi : ops.toList[i]? = some oi)
    (hb : (Region.noSelect ops && Region.free md ops listed i && (Region.ready md ops listed).contains i && shutB md ops listed && waitsB md ops i f st && !(i == st)) = true)
    (hQ : ∀ c a w, Q (.panic c) (a.put oi.dst v) w → Q (.panic c) a w) (hy : YieldsIf P ops S oi v a) (hS : S w)
    (h : wpAnyT P md ops Q S st fuel (listed.setIfInBounds i true) (a.put oi.dst v) w) : wpAnyT P md ops Q S st (fuel + 1) listed a w := by
  simp only [Bool.and_eq_true, Bool.not_eq_true', beq_eq_false_iff_ne] at hb
  obtain ⟨⟨⟨⟨⟨h1, h2⟩, h3⟩, h4⟩, h5⟩, h6⟩ := hb
  rw [Array.getElem?_toList] at hi
  exact wpAnyT_first hi (Region.noSelect_spec h1) hQ h6 h5 fuel listed a w h4 (Region.free_spec hi h2) (by simpa using h3) hy hS h
/-- One alone may come up: it is carried out. -/
theorem wpAnyT_one {i : Nat} {o : Oper} {fuel : Nat} {listed : Array Bool} {a : Act} {w : World} (ho : ops.toList[i]? = some o) (hr : Region.ready md ops listed = [i])
    (h : ∀ K' : Act → World → Prop, Shut (∀ a w, (i ≠ st → S w) → wpAnyT P md ops Q S st fuel (listed.setIfInBounds i true) a w → K' a w) → if Region.wanted o (yielded ops a.tmps) = true then Oper.wp P o a w K' Q else K' (a.put o.dst undef) w) : wpAnyT P md ops Q S st (fuel + 1) listed a w := by
  rw [Array.getElem?_toList] at ho
  refine ⟨fun h0 => (by rw [hr] at h0; cases h0), ?_⟩
  rw [hr]
  intro j hj
  rw [List.mem_singleton] at hj
  subst hj
  exact wpOp_step ho (fun K' hK => h K' (fun a w hS hW => hK a w ⟨hS, hW⟩))
theorem wpAnyT_done {listed : Array Bool} {a : Act} {w : World} (hr : Region.ready md ops listed = []) (h : Q .normal a w) : ∀ fuel, wpAnyT P md ops Q S st fuel listed a w
  | 0 => ⟨hr, h⟩
  | _ + 1 => ⟨fun _ => h, by rw [hr]; simp⟩
/-- The beginning. st: the store. -/
theorem wp_region_tail {id : Nat} (st : Nat) (S : World → Prop) {a : Act} {w : World} (hm : P.follows .mixedOrders = true) (hS : S w.drew)
    (h : S w.drew → wpAnyT P .any ops Q S st ops.size (Array.replicate ops.size false) a w.drew) : (Code.region id ops true).wp P Q a w :=
  wp_region_any hm (wpAny_of_tail _ _ _ _ (h hS))
/-- A slice literal of one part is made. -/
theorem step_build1 {o : Oper} {a : Act} {w w' : World} {K : Act → World → Prop} {E : Prop} (hg : o.guard = none) (t : TypeId) (x : Operand) (ho : o.op = .buildSlice t 1 #[(0, x)]) {v v' : Value} (hx : a.eval x = v) (hr : (Instr.buildSlice t 1 #[(0, v)]).run P w = .ok v' w') (h : K (a.put o.dst v') w') : if Region.wanted o (yielded ops a.tmps) = true then Oper.wp P o a w K Q else E := by
  rw [if_pos (by simp [Region.wanted, hg])]
  subst hx
  unfold Oper.wp execOp
  have e : (#[(0, x)] : Array (Nat × Operand)).map (fun (i, x) => (i, a.eval x)) = #[(0, a.eval x)] := by simp
  simp only [ho, e, Sem.run_bind, hr, Result.andThen_ok]
  exact h
end
end Go.Proofs.YteimilnecahifaaGreatDoor.Re

namespace Go.Proofs.YteimilnecahifaaGreatDoor.Nm
open Go.Proofs.YteimilnecahifaaGreatDoor

/-- Pieces as the program keeps them: bytes up to the next conversion as one. -/
def mergeP : List UInt8 → List Pc → List Pc
  | p, [] => [{ b := p }]
  | p, x :: l => if x.letter = 0 then mergeP (p ++ x.b) l else { b := p } :: x :: mergeP [] l
theorem once_merge : ∀ (l : List Pc) (p : List UInt8) (args : List ByteArray), onceS (mergeP p l) args = ⟨p ++ (onceS l args).out, (onceS l args).bad, (onceS l args).left, (onceS l args).took, (onceS l args).stop⟩
  | [], p, args => by simp [mergeP, onceS]
  | x :: l, p, args => by
    by_cases h : x.letter = 0
    · rw [mergeP, if_pos h, once_merge l, onceS, if_pos h]
      simp
    · rw [mergeP, if_neg h]
      have e0 : onceS ({ b := p } :: x :: mergeP [] l) args = ⟨p ++ (onceS (x :: mergeP [] l) args).out, (onceS (x :: mergeP [] l) args).bad, (onceS (x :: mergeP [] l) args).left, (onceS (x :: mergeP [] l) args).took, (onceS (x :: mergeP [] l) args).stop⟩ := by
        rw [onceS, if_pos rfl]
      rw [e0]
      have e1 : onceS (x :: mergeP [] l) args = onceS (x :: l) args := by
        rw [onceS, if_neg h, onceS, if_neg h]
        simp only [once_merge l, List.nil_append]
      rw [e1]
theorem once_merge0 (l : List Pc) (args : List ByteArray) : onceS (mergeP [] l) args = onceS l args := by
  rw [once_merge]; simp
theorem all_congr {l l' : List Pc} (h : ∀ a, onceS l a = onceS l' a) : ∀ (n : Nat) (args : List ByteArray), allS l n args = allS l' n args
  | 0, _ => rfl
  | n + 1, args => by rw [allS, allS, h, all_congr h n]
theorem all_merge (l : List Pc) (n : Nat) (args : List ByteArray) : allS (mergeP [] l) n args = allS l n args := all_congr (once_merge0 l) n args
theorem esc_n (t : List UInt8) : escS (110 :: t) = ([10], t) := rfl
/-- The conversions that the laws ask for. -/
structure OkPc (x : Pc) : Prop where
  prec : x.prec = none
  plus : x.plus = false
  blank : x.blank = false
  width : x.width ≤ 1000
  lets : x.letter = 115 ∨ x.letter = 100 ∨ x.letter = 105 ∨ x.letter = 120 ∨ x.letter = 111
  sharp : x.sharp = true → x.letter = 111 ∧ x.zero = false
theorem OkPc.ne0 {x : Pc} (h : OkPc x) : x.letter ≠ 0 := by
  rcases h.lets with e | e | e | e | e <;> rw [e] <;> decide
/-- Filled up to the width. -/
def fillS (x : Pc) (s : List UInt8) : List UInt8 := if x.minus then s ++ many 32 (x.width - s.length) else if x.zero then many 48 (x.width - s.length) ++ s else many 32 (x.width - s.length) ++ s
def markS (x : Pc) (n : Nat) : List UInt8 := if x.sharp = true ∧ n ≠ 0 then [48] else []
theorem fill_wide {x : Pc} (h : x.zero = false) (s : List UInt8) : fillS x s = wideS x s := by
  unfold fillS wideS
  rw [h]
  simp
theorem told_fill {x : Pc} (h : OkPc x) {n : Nat} (hn : n ≤ 9223372036854775807) : toldS x (n : Int) = fillS x (markS x n ++ dgB (baseL x.letter) n) := by
  have hp := precD_plain (x := x) hn h.prec (by rcases h.lets with e | e | e | e | e <;> rw [e] <;> decide)
  have hs : signS x (n : Int) = [] := by
    have h1 : ¬ (n : Int) < 0 := by omega
    unfold signS
    rw [h.plus, h.blank]
    by_cases hg : isSigned x.letter = true
    · simp [hg, h1]
    · rw [if_neg hg]
      by_cases h2 : x.sharp = true
      · have := (h.sharp h2).1
        rw [this, h2]
        simp
      · simp [h2]
  have hsh : sharpD x (n : Int) = markS x n ++ dgB (baseL x.letter) n := by
    unfold sharpD markS
    rw [hp]
    by_cases h2 : x.sharp = true
    · have e8 : x.letter = 111 := (h.sharp h2).1
      have eb : baseL x.letter = 8 := by rw [e8]; rfl
      rw [eb]
      by_cases h0 : n = 0
      · subst h0
        rw [if_neg (fun h => h.2.2 rfl), if_neg (fun h => h.2 rfl)]
        rfl
      · obtain ⟨d, r, e, hd, hd2⟩ := dgB_head 8 (by omega) (by omega) n (by omega)
        have := sgn8_ne ⟨d, hd2⟩ hd
        simp only at this
        rw [if_pos ⟨h2, e8, by rw [e]; simpa using this⟩, if_pos ⟨h2, h0⟩]
        rfl
    · rw [if_neg (fun h => h2 h.1), if_neg (fun h => h2 h.1)]
      rfl
  unfold toldS zeroD fillS
  rw [hs, hsh, h.prec]
  generalize markS x n ++ dgB (baseL x.letter) n = L
  by_cases hm : x.minus = true
  · rw [if_pos hm, if_neg (by simp [hm])]
    simp [wideS, hm]
  · have hm' : x.minus = false := by simpa using hm
    rw [if_neg hm]
    by_cases hz : x.zero = true
    · rw [if_pos hz, if_pos ⟨hz, hm', rfl⟩]
      simp only [wideS, hm', List.nil_append, List.length_nil, Nat.sub_zero]
      have e : x.width - (many 48 (x.width - L.length) ++ L).length = 0 := by simp [many]; omega
      rw [e]
      simp [many]
    · rw [if_neg hz, if_neg (fun h => hz h.1)]
      simp [wideS, hm']
theorem conv_s {x : Pc} (h : OkPc x) (hl : x.letter = 115) (a : ByteArray) : convS x a = (wideS x a.data.toList, false, false) := by
  unfold convS
  rw [if_neg (by rw [hl]; decide), if_pos hl, h.prec]
theorem conv_n {x : Pc} (h : OkPc x) (hl : x.letter ≠ 115) {a : ByteArray} {n : Nat} (hn : n ≤ 9223372036854775807) (hv : valueS a.data.toList = some (n : Int)) : convS x a = (fillS x (markS x n ++ dgB (baseL x.letter) n), false, false) := by
  rw [conv_num hv ⟨by rcases h.lets with e | e | e | e | e <;> rw [e] <;> decide, hl, by rcases h.lets with e | e | e | e | e <;> rw [e] <;> decide⟩, told_fill h hn]
theorem conv_bad {x : Pc} (h : OkPc x) (hl : x.letter ≠ 115) {a : ByteArray} (hv : valueS a.data.toList = none) : convS x a = (fillS x (markS x 0 ++ dgB (baseL x.letter) 0), true, false) := by
  unfold convS
  rw [if_neg (by rcases h.lets with e | e | e | e | e <;> rw [e] <;> decide), if_neg hl, if_neg (by rcases h.lets with e | e | e | e | e <;> rw [e] <;> decide), hv]
  simp only
  rw [show (0 : Int) = ((0 : Nat) : Int) from rfl, told_fill h (by omega)]
end Go.Proofs.YteimilnecahifaaGreatDoor.Nm

namespace Go.Proofs
open Go.Shelf
def Tryz.laysPu14_ren : Go.Shelf.Ren := ⟨fun | 14 => 251 | 16 => 265 | 17 => 266 | 19 => 276 | 20 => 277 | 21 => 278 | 22 => 279 | 23 => 280 | 24 => 281 | 25 => 197 | 27 => 288 | 26 => 287 | 28 => 290 | 29 => 28 | 30 => 36 | 31 => 37 | 32 => 38 | 33 => 39 | 35 => 60 | 34 => 59 | 36 => 61 | 37 => 62 | 38 => 63 | 39 => 95 | 40 => 96 | n => n, fun | 9 => 9 | 3 => 3 | 22 => 66 | 24 => 248 | 25 => 324 | 4 => 4 | 34 => 346 | 5 => 5 | 36 => 105 | 37 => 27 | 0 => 0 | 39 => 348 | 21 => 21 | 44 => 365 | 47 => 281 | 50 => 373 | 48 => 371 | 2 => 2 | 52 => 65 | 55 => 69 | 59 => 108 | 60 => 61 | 20 => 20 | 61 => 109 | 65 => 211 | 66 => 212 | 67 => 251 | n => n, fun | 0 => 8 | 1 => 9 | 2 => 1 | 3 => 4 | 4 => 5 | n => n⟩
theorem Tryz.laysPu14 : Go.Proofs.LaysPu.n14 Tryz.prog Tryz.laysPu14_ren := {
  mixed := by kernel_rfl
  f14 := Tryz.func251.trans (congrArg some (by kernel_rfl))
  f16 := Tryz.func265.trans (congrArg some (by kernel_rfl))
  f17 := Tryz.func266.trans (congrArg some (by kernel_rfl))
  f19 := Tryz.func276.trans (congrArg some (by kernel_rfl))
  f20 := Tryz.func277.trans (congrArg some (by kernel_rfl))
  f21 := Tryz.func278.trans (congrArg some (by kernel_rfl))
  f22 := Tryz.func279.trans (congrArg some (by kernel_rfl))
  f23 := Tryz.func280.trans (congrArg some (by kernel_rfl))
  f24 := Tryz.func281.trans (congrArg some (by kernel_rfl))
  f25 := Tryz.func197.trans (congrArg some (by kernel_rfl))
  f26 := Tryz.func287.trans (congrArg some (by kernel_rfl))
  f27 := Tryz.func288.trans (congrArg some (by kernel_rfl))
  f28 := Tryz.func290.trans (congrArg some (by kernel_rfl))
  f29 := Tryz.func28.trans (congrArg some (by kernel_rfl))
  f30 := Tryz.func36.trans (congrArg some (by kernel_rfl))
  f31 := Tryz.func37.trans (congrArg some (by kernel_rfl))
  f32 := Tryz.func38.trans (congrArg some (by kernel_rfl))
  f33 := Tryz.func39.trans (congrArg some (by kernel_rfl))
  f34 := Tryz.func59.trans (congrArg some (by kernel_rfl))
  f35 := Tryz.func60.trans (congrArg some (by kernel_rfl))
  f36 := Tryz.func61.trans (congrArg some (by kernel_rfl))
  f37 := Tryz.func62.trans (congrArg some (by kernel_rfl))
  f38 := Tryz.func63.trans (congrArg some (by kernel_rfl))
  f39 := Tryz.func95.trans (congrArg some (by kernel_rfl))
  f40 := Tryz.func96.trans (congrArg some (by kernel_rfl))
  t0 := Tryz.underlying0
  a0 := Tryz.isAgg0
  z0 := Tryz.sizeOf0
  v0 := Tryz.zeroValue0
  i0 := by kernel_rfl
  t2 := Tryz.underlying2
  a2 := Tryz.isAgg2
  z2 := Tryz.sizeOf2
  v2 := Tryz.zeroValue2
  i2 := by kernel_rfl
  t3 := Tryz.underlying3
  a3 := Tryz.isAgg3
  z3 := Tryz.sizeOf3
  v3 := Tryz.zeroValue3
  i3 := by kernel_rfl
  t4 := Tryz.underlying4
  a4 := Tryz.isAgg4
  z4 := Tryz.sizeOf4
  v4 := Tryz.zeroValue4
  i4 := by kernel_rfl
  t5 := Tryz.underlying5
  a5 := Tryz.isAgg5
  z5 := Tryz.sizeOf5
  v5 := Tryz.zeroValue5
  i5 := by kernel_rfl
  t9 := Tryz.underlying9
  a9 := Tryz.isAgg9
  z9 := Tryz.sizeOf9
  v9 := Tryz.zeroValue9
  i9 := by kernel_rfl
  t20 := Tryz.underlying20
  a20 := Tryz.isAgg20
  z20 := Tryz.sizeOf20
  v20 := Tryz.zeroValue20
  i20 := by kernel_rfl
  t21 := Tryz.underlying21
  a21 := Tryz.isAgg21
  z21 := Tryz.sizeOf21
  v21 := Tryz.zeroValue21
  i21 := by kernel_rfl
  t22 := Tryz.underlying66
  a22 := Tryz.isAgg66
  z22 := Tryz.sizeOf66
  v22 := Tryz.zeroValue66
  i22 := by kernel_rfl
  t24 := Tryz.underlying248
  a24 := Tryz.isAgg248
  z24 := Tryz.sizeOf248
  v24 := Tryz.zeroValue248
  i24 := by kernel_rfl
  t25 := Tryz.underlying324
  a25 := Tryz.isAgg324
  z25 := Tryz.sizeOf324
  v25 := Tryz.zeroValue324
  i25 := by kernel_rfl
  t34 := Tryz.underlying346
  a34 := Tryz.isAgg346
  z34 := Tryz.sizeOf346
  v34 := Tryz.zeroValue346
  i34 := by kernel_rfl
  c34 := by kernel_rfl
  t36 := Tryz.underlying105
  a36 := Tryz.isAgg105
  z36 := Tryz.sizeOf105
  v36 := Tryz.zeroValue105
  i36 := by kernel_rfl
  t37 := Tryz.underlying27
  a37 := Tryz.isAgg27
  z37 := Tryz.sizeOf27
  v37 := Tryz.zeroValue27
  i37 := by kernel_rfl
  t39 := Tryz.underlying348
  a39 := Tryz.isAgg348
  z39 := Tryz.sizeOf348
  v39 := Tryz.zeroValue348
  i39 := by kernel_rfl
  t44 := Tryz.underlying365
  a44 := Tryz.isAgg365
  z44 := Tryz.sizeOf365
  v44 := Tryz.zeroValue365
  i44 := by kernel_rfl
  t47 := Tryz.underlying281
  a47 := Tryz.isAgg281
  z47 := Tryz.sizeOf281
  v47 := Tryz.zeroValue281
  i47 := by kernel_rfl
  t48 := Tryz.underlying371
  a48 := Tryz.isAgg371
  z48 := Tryz.sizeOf371
  v48 := Tryz.zeroValue371
  i48 := by kernel_rfl
  t50 := Tryz.underlying373
  a50 := Tryz.isAgg373
  z50 := Tryz.sizeOf373
  v50 := Tryz.zeroValue373
  i50 := by kernel_rfl
  t52 := Tryz.underlying65
  a52 := Tryz.isAgg65
  z52 := Tryz.sizeOf65
  v52 := Tryz.zeroValue65
  i52 := by kernel_rfl
  t55 := Tryz.underlying69
  a55 := Tryz.isAgg69
  z55 := Tryz.sizeOf69
  v55 := Tryz.zeroValue69
  i55 := by kernel_rfl
  t59 := Tryz.underlying108
  a59 := Tryz.isAgg108
  z59 := Tryz.sizeOf108
  v59 := Tryz.zeroValue108
  i59 := by kernel_rfl
  t60 := Tryz.underlying61
  a60 := Tryz.isAgg61
  z60 := Tryz.sizeOf61
  v60 := Tryz.zeroValue61
  i60 := by kernel_rfl
  t61 := Tryz.underlying109
  a61 := Tryz.isAgg109
  z61 := Tryz.sizeOf109
  t65 := Tryz.underlying211
  a65 := Tryz.isAgg211
  z65 := Tryz.sizeOf211
  v65 := Tryz.zeroValue211
  i65 := by kernel_rfl
  t66 := Tryz.underlying212
  a66 := Tryz.isAgg212
  z66 := Tryz.sizeOf212
  v66 := Tryz.zeroValue212
  i66 := by kernel_rfl
  t67 := Tryz.underlying251
  a67 := Tryz.isAgg251
  z67 := Tryz.sizeOf251
  v67 := Tryz.zeroValue251
  i67 := by kernel_rfl
  g0 := by kernel_rfl
  m0 := by kernel_rfl
  g1 := by kernel_rfl
  m1 := by kernel_rfl
  g2 := by kernel_rfl
  m2 := by kernel_rfl
  g3 := by kernel_rfl
  m3 := by kernel_rfl
  g4 := by kernel_rfl
  m4 := by kernel_rfl }
open Go.RowKit in
theorem Tryz.strconv_ParseUint_10_at64_syntax (s : ByteArray) (hlim : s.size ≤ 281474976710656) (h : Lib.parseUintB 64 s.data.toList = .«syntax») (ev : Value) (w : World) (hv : w.cell? ⟨8, 0, none⟩ = some ev) (hev : ev = .nilIface ∨ ∃ te pe, ev = .iface te pe) :
    Calls Tryz.prog 251 #[.string s, .int .i64 10, .int .i64 64] w fun e w' => ∃ N, e = .returned (.tuple #[.int .u64 0, .iface 348 (.pointer (some ⟨N, 0, none⟩))]) ∧ w.heap.size ≤ N ∧ w'.heap[N]? = some (.cells #[.string ⟨#[80, 97, 114, 115, 101, 85, 105, 110, 116]⟩, .string s, ev] 365 (0, 0)) ∧ Below w.heap.size w w' := Any.strconv_ParseUint_10_at64_syntax Tryz.laysPu14 s hlim h ev w hv hev
end Go.Proofs
