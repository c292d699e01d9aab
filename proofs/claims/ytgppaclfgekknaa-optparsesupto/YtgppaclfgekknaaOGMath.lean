/- Options one by one and in groups: what they come to. -/
import Derived.Test.YtgppaclfgekknaaOAwake
namespace Go.Proofs.Ytgppaclfgekknaa

def spec7 : ByteArray := ⟨#[97, 98, 99, 110, 58, 109, 58]⟩
def dash (c : UInt8) : ByteArray := ⟨#[45, c]⟩
def alone (g : List UInt8) : Opts := g.map fun c => (c, ⟨#[]⟩)
def IsAbc (c : UInt8) : Prop := c = 97 ∨ c = 98 ∨ c = 99

theorem kind_abc {c : UInt8} (h : IsAbc c) : kindS spec7 c = 1 := by rcases h with rfl | rfl | rfl <;> decide
theorem kind_nm {c : UInt8} (h : c = 110 ∨ c = 109) : kindS spec7 c = 2 := by rcases h with rfl | rfl <;> decide
theorem dash_ne {c : UInt8} (h : c ≠ 45) : dash c ≠ dashes := by
  intro e
  have : #[45, c] = #[45, 45] := congrArg ByteArray.data e
  simp at this
  exact h this
theorem dash_is (c : UInt8) : ¬ ((dash c).size < 2 ∨ (dash c).data.toList.head? ≠ some 45) := by
  intro h
  rcases h with h | h
  · exact absurd h (by show ¬ (2 < 2); omega)
  · exact h rfl
theorem parse_alone {c : UInt8} (h : IsAbc c) (l : Opts) (rest : List ByteArray) : parseS spec7 l (dash c :: rest) = parseS spec7 (l ++ [(c, ⟨#[]⟩)]) rest := by
  refine parseS_to (p := (l ++ [(c, ⟨#[]⟩)], rest)) (dash_ne (by rcases h with rfl | rfl | rfl <;> decide)) (dash_is c) ?_
  show groupS spec7 l [c] rest = _
  rw [groupS, if_neg (by rw [kind_abc h]; decide), if_pos (kind_abc h), groupS]
theorem parse_arg {c : UInt8} (h : c = 110 ∨ c = 109) (l : Opts) (s : ByteArray) (rest : List ByteArray) : parseS spec7 l (dash c :: s :: rest) = parseS spec7 (l ++ [(c, s)]) rest := by
  refine parseS_to (p := (l ++ [(c, s)], rest)) (dash_ne (by rcases h with rfl | rfl <;> decide)) (dash_is c) ?_
  show groupS spec7 l [c] (s :: rest) = _
  rw [groupS, if_neg (by rw [kind_nm h]; decide), if_neg (by rw [kind_nm h]; decide), if_neg (by simp), nextS]
theorem tot_append (a b : List ByteArray) : tot (a ++ b) = tot a + tot b := by simp [tot]
theorem tot_take (l : List ByteArray) (n : Nat) (h : n < l.length) : tot (l.take (n + 1)) = tot (l.take n) + (nth l n).size := by
  rw [List.take_succ_eq_append_getElem h, tot_append]; simp [tot, nth, h]
theorem tot_take_le (l : List ByteArray) (n : Nat) : tot (l.take n) ≤ tot l := by
  have := tot_append (l.take n) (l.drop n)
  rw [List.take_append_drop] at this; omega
theorem nth_tot (l : List ByteArray) (n : Nat) (h : n < l.length) : (nth l n).size ≤ tot l := by
  have h1 := tot_take l n h
  have h2 := tot_take_le l (n + 1)
  omega
/-- What the letters come to: options apart, those of them that stand in a group, what is told of them, how many arguments were used. -/
structure Built (args ap : List ByteArray) (g : List UInt8) (wn : Opts) (n : Nat) : Prop where
  parse : ∀ (l : Opts) (rest : List ByteArray), parseS spec7 l (ap ++ rest) = parseS spec7 (l ++ wn) rest
  abc : ∀ c ∈ g, IsAbc c
  zero : n = 0 → wn = alone g
  size : ap.length ≤ 2 * wn.length ∧ tot ap ≤ 2 * wn.length + tot (args.take n) ∧ n ≤ args.length ∧ g.length ≤ wn.length
theorem Built.nil (args : List ByteArray) : Built args [] [] [] 0 := ⟨fun l rest => by rw [List.nil_append, List.append_nil], fun c hc => (by cases hc), fun _ => rfl, by simp [tot]⟩
theorem Built.alone {args ap : List ByteArray} {g : List UInt8} {wn : Opts} {n : Nat} (c : UInt8) (hc : IsAbc c) (h : Built args ap g wn n) : Built args (ap ++ [dash c]) (g ++ [c]) (wn ++ [(c, ⟨#[]⟩)]) n := by
  refine ⟨fun l rest => ?_, fun d hd => ?_, fun hn => ?_, ?_⟩
  · rw [List.append_assoc, h.parse, List.singleton_append, parse_alone hc, List.append_assoc]
  · rcases List.mem_append.1 hd with hd | hd
    · exact h.abc d hd
    · rw [List.mem_singleton.1 hd]; exact hc
  · rw [h.zero hn]; simp [Go.Proofs.Ytgppaclfgekknaa.alone]
  · have ih := h.size
    have e : (dash c).size = 2 := rfl
    rw [tot_append, List.length_append, List.length_append, List.length_append]
    simp only [List.length_singleton, tot_cons, e, show tot [] = 0 from rfl]; omega
theorem Built.arg {args ap : List ByteArray} {g : List UInt8} {wn : Opts} {n : Nat} (c : UInt8) (hc : c = 110 ∨ c = 109) (hn : n < args.length) (h : Built args ap g wn n) : Built args (ap ++ [dash c, nth args n]) g (wn ++ [(c, nth args n)]) (n + 1) := by
  refine ⟨fun l rest => ?_, h.abc, fun hn => by omega, ?_⟩
  · rw [List.append_assoc, h.parse, List.cons_append, List.singleton_append, parse_arg hc, List.append_assoc]
  · have ih := h.size
    have e : (dash c).size = 2 := rfl
    rw [tot_append, List.length_append, List.length_append, tot_take _ _ hn]
    simp only [List.length_cons, List.length_nil, tot_cons, e, show tot [] = 0 from rfl]; omega
theorem parse_apart {args ap : List ByteArray} {g : List UInt8} {wn : Opts} {n : Nat} (h : Built args ap g wn n) (ops : List ByteArray) : parseS spec7 [] (ap ++ [dashes] ++ ops) = some (wn, ops) := by
  rw [List.append_assoc, h.parse, List.singleton_append, parseS_dd _ _ _ _ rfl, List.nil_append]

theorem group_abc : ∀ (g r : List UInt8) (l : Opts) (rest : List ByteArray), (∀ c ∈ g, IsAbc c) → groupS spec7 l (g ++ r) rest = groupS spec7 (l ++ alone g) r rest
  | [], r, l, rest, _ => by simp [alone]
  | c :: g, r, l, rest, h => by
    have hc := h c (by simp)
    rw [List.cons_append, groupS, if_neg (by rw [kind_abc hc]; decide), if_pos (kind_abc hc), group_abc g r _ rest (fun d hd => h d (by simp [hd])), List.append_assoc]
    rfl
theorem group_ok {gv : ByteArray} {c : UInt8} {g : List UInt8} (hv : gv.data.toList = 45 :: c :: g) (hc : IsAbc c) : gv ≠ dashes ∧ ¬ (gv.size < 2 ∨ gv.data.toList.head? ≠ some 45) := by
  refine ⟨fun e => ?_, fun h => ?_⟩
  · rw [e] at hv
    have : c = 45 := by
      have h2 : (45 : UInt8) :: [45] = 45 :: c :: g := hv
      simp at h2; exact h2.1.symm
    rcases hc with rfl | rfl | rfl <;> exact absurd this (by decide)
  · rcases h with h | h
    · have : gv.data.toList.length = gv.size := rfl
      rw [hv] at this; simp at this; omega
    · rw [hv] at h; exact h rfl
theorem parse_group {gv : ByteArray} {g : List UInt8} (hv : gv.data.toList = 45 :: g) (hg : g ≠ []) (h : ∀ c ∈ g, IsAbc c) (ops : List ByteArray) : parseS spec7 [] (gv :: dashes :: ops) = some (alone g, ops) := by
  cases g with
  | nil => exact absurd rfl hg
  | cons c g =>
    obtain ⟨h1, h2⟩ := group_ok hv (h c (by simp))
    rw [parseS_to (p := (alone (c :: g), dashes :: ops)) h1 h2 ?_, parseS_dd _ _ _ _ rfl]
    rw [hv]
    have := group_abc (c :: g) [] [] (dashes :: ops) h
    rw [List.append_nil, List.nil_append] at this
    show groupS spec7 [] (c :: g) _ = _
    rw [this, groupS]
theorem parse_group_arg {gv s : ByteArray} {g : List UInt8} (hv : gv.data.toList = 45 :: (g ++ 110 :: s.data.toList)) (hs : s.size ≠ 0) (hg : g ≠ []) (h : ∀ c ∈ g, IsAbc c) (ops : List ByteArray) : parseS spec7 [] (gv :: dashes :: ops) = some (alone g ++ [(110, s)], ops) := by
  cases g with
  | nil => exact absurd rfl hg
  | cons c g =>
    obtain ⟨h1, h2⟩ := group_ok (g := g ++ 110 :: s.data.toList) hv (h c (by simp))
    rw [parseS_to (p := (alone (c :: g) ++ [(110, s)], dashes :: ops)) h1 h2 ?_, parseS_dd _ _ _ _ rfl]
    rw [hv]
    have := group_abc (c :: g) (110 :: s.data.toList) [] (dashes :: ops) h
    show groupS spec7 [] (c :: g ++ 110 :: s.data.toList) _ = _
    rw [this, List.nil_append, groupS, if_neg (by rw [kind_nm (.inl rfl)]; decide), if_neg (by rw [kind_nm (.inl rfl)]; decide), if_pos (fun e => hs (by have : s.data.toList.length = s.size := rfl; rw [e] at this; exact this.symm))]
end Go.Proofs.Ytgppaclfgekknaa
