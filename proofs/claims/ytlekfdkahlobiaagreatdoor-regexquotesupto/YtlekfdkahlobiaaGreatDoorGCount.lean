/- Making a node of the reference. -/
import Derived.Laws.Tables
import Derived.Test.YtlekfdkahlobiaaGreatDoorGMem2
import Derived.Test.YtlekfdkahlobiaaGreatDoorGText
namespace Go.Proofs.YtlekfdkahlobiaaGreatDoor.Re
open Go.RowKit

theorem set_one (cs : Array Value) (i : Nat) (v : Value) (h : i < cs.size) : (cs.setIfInBounds i v).toList = cs.toList.take i ++ [v] ++ cs.toList.drop (i + 1) := by
  rw [Array.toList_setIfInBounds, List.set_eq_take_append_cons_drop, if_pos (by simpa using h)]
  simp
theorem fold_set : ∀ (l : List Value) (s off : Nat) (cs : Array Value), off + s + l.length ≤ cs.size → ((l.zipIdx s).foldl (fun cs (q : Value × Nat) => cs.setIfInBounds (off + q.2) q.1) cs).toList = cs.toList.take (off + s) ++ l ++ cs.toList.drop (off + s + l.length)
  | [], s, off, cs, _ => by simp
  | v :: l, s, off, cs, h => by
    have hs : (cs.setIfInBounds (off + s) v).size = cs.size := by simp
    simp only [List.length_cons] at h
    rw [List.zipIdx_cons, List.foldl_cons, fold_set l (s + 1) off _ (by rw [hs]; omega), set_one cs (off + s) v (by omega)]
    have hl : (cs.toList.take (off + s)).length = off + s := by simp; omega
    have e1 : (cs.toList.take (off + s) ++ [v] ++ cs.toList.drop (off + s + 1)).take (off + (s + 1)) = cs.toList.take (off + s) ++ [v] := by
      rw [List.take_append_of_le_length (by simp; omega), List.take_of_length_le (by simp; omega)]
    have e2 : (cs.toList.take (off + s) ++ [v] ++ cs.toList.drop (off + s + 1)).drop (off + (s + 1) + l.length) = cs.toList.drop (off + s + (l.length + 1)) := by
      rw [List.drop_append, List.drop_eq_nil_of_le (by simp; omega), List.nil_append, List.drop_drop]
      congr 1
      simp
      omega
    rw [e1, e2]
    simp
theorem fill_set {place : Nat → Option (Nat × Nat)} {cs : Array Value} {i off size : Nat} {v : Value} {rest : List (Nat × Value)} (hp : place i = some (off, size)) (hs : v.cells.size = size) (hl : off + size ≤ cs.size) : Instr.fill place cs ((i, v) :: rest) = Instr.fill place (cs.toList.take off ++ v.cells.toList ++ cs.toList.drop (off + size)).toArray rest := by
  rw [Instr.fill, hp]
  simp only
  rw [if_neg (by simp [hs]; omega)]
  congr 1
  have := fold_set v.cells.toList 0 off cs (by simp [hs]; omega)
  apply Array.ext'
  rw [← Array.foldl_toList, Array.toList_zipIdx]
  simp only [Nat.add_zero, Array.length_toList, hs] at this
  exact this
theorem node_zero : (Tryz.prog.info? 57).bind (·.zero) = some (.agg (ndC 0 noB 0 0 (.slice none 0 0))) := by kernel_rfl
def ndPlaces : List (Nat × Nat) := [(0, 1), (1, 256), (257, 1), (258, 1), (259, 1)]
theorem node_places : ∃ fields, Tryz.prog.underlying 57 = some (.struct fields) ∧ fields.toList.mapM (fun f => (Tryz.prog.info? f.type).map fun i => (f.offset, i.size)) = some ndPlaces := ⟨_, Tryz.underlying57, by kernel_rfl⟩
theorem node_build (parts : Array (Nat × Value)) (cells : Array Value) (h : Instr.fill (ndPlaces.toArray[·]?) (ndC 0 noB 0 0 (.slice none 0 0)) parts.toList = some cells) (w : World) : (Instr.build 57 parts).run Tryz.prog w = .ok (.agg cells) w := by
  obtain ⟨fields, hu, hp⟩ := node_places
  refine run_build w _ parts cells ?_
  unfold Program.built
  have hz := node_zero
  cases hi : Tryz.prog.info? 57 with
  | none => rw [hi] at hz; cases hz
  | some it =>
    rw [hi] at hz
    have hz2 : it.zero = some (.agg (ndC 0 noB 0 0 (.slice none 0 0))) := hz
    simp only [hu]
    rw [hz2, hp]
    exact h
theorem ndC_list (k : Nat) (p : UInt8 → Bool) (m n : Int) (kv : Value) : (ndC k p m n kv).toList = .int .i64 (k : Int) :: (boolsL p ++ [.int .i64 m, .int .i64 n, kv]) := rfl
theorem fill_kind (k : Nat) (p : UInt8 → Bool) (m n : Int) (kv : Value) (k' : Nat) (rest : List (Nat × Value)) : Instr.fill (ndPlaces.toArray[·]?) (ndC k p m n kv) ((0, .int .i64 (k' : Int)) :: rest) = Instr.fill (ndPlaces.toArray[·]?) (ndC k' p m n kv) rest := by
  rw [fill_set (off := 0) (size := 1) rfl rfl (by rw [ndC_size]; omega)]
  congr 1
theorem fill_has (k : Nat) (p : UInt8 → Bool) (m n : Int) (kv : Value) (q : UInt8 → Bool) (rest : List (Nat × Value)) : Instr.fill (ndPlaces.toArray[·]?) (ndC k p m n kv) ((1, .agg (boolsL q).toArray) :: rest) = Instr.fill (ndPlaces.toArray[·]?) (ndC k q m n kv) rest := by
  rw [fill_set (off := 1) (size := 256) rfl (by show (boolsL q).toArray.size = 256; simp [boolsL_len]) (by rw [ndC_size]; omega)]
  congr 1
set_option maxRecDepth 100000 in
theorem fill_m (k : Nat) (p : UInt8 → Bool) (m n : Int) (kv : Value) (m' : Int) (rest : List (Nat × Value)) : Instr.fill (ndPlaces.toArray[·]?) (ndC k p m n kv) ((2, .int .i64 m') :: rest) = Instr.fill (ndPlaces.toArray[·]?) (ndC k p m' n kv) rest := by
  rw [fill_set (off := 257) (size := 1) rfl rfl (by rw [ndC_size]; omega)]
  congr 1
set_option maxRecDepth 100000 in
theorem fill_n (k : Nat) (p : UInt8 → Bool) (m n : Int) (kv : Value) (n' : Int) (rest : List (Nat × Value)) : Instr.fill (ndPlaces.toArray[·]?) (ndC k p m n kv) ((3, .int .i64 n') :: rest) = Instr.fill (ndPlaces.toArray[·]?) (ndC k p m n' kv) rest := by
  rw [fill_set (off := 258) (size := 1) rfl rfl (by rw [ndC_size]; omega)]
  congr 1
theorem build_copy (k : Nat) (p : UInt8 → Bool) (m n : Int) (w : World) : (Instr.build 57 #[(0, .int .i64 (k : Int)), (1, .agg (boolsL p).toArray), (2, .int .i64 m), (3, .int .i64 n)]).run Tryz.prog w = .ok (.agg (ndC k p m n (.slice none 0 0))) w := node_build _ _ (by rw [fill_kind, fill_has, fill_m, fill_n]; rfl) w
set_option maxRecDepth 100000 in
theorem ndC_setkv (k : Nat) (p : UInt8 → Bool) (m n : Int) (kv v : Value) : (ndC k p m n kv).setIfInBounds 259 v = ndC k p m n v := by
  apply Array.ext'
  rw [set_one _ _ _ (by rw [ndC_size]; omega), ndC_list, ndC_list]
  rfl
/-- Blocks from a place on, but one's own row. -/
def Far (base : Nat) (kv : Value) : Nat → Prop := fun j => base ≤ j ∧ some j ≠ kv.ownBlock
theorem kept_grown {F : Nat → Prop} {w w' : World} {row : Option Nat} (hg : w.grownBy w' row) (hF : ∀ j, F j → some j ≠ row) : KeptF F w w' := fun b _ hb ho => (hg.block b (h_lt ho) (hF b hb)).trans ho
theorem kept_below {F : Nat → Prop} {w w' : World} (h : Below w.heap.size w w') : KeptF F w w' := fun b _ _ ho => (h.block b (h_lt ho)).trans ho
theorem kept_set {F : Nat → Prop} {w : World} {b i : Nat} {v : Value} (hF : ¬ F b) : KeptF F w (w.setCell ⟨b, i, none⟩ v) := fun j _ hj ho => (Below.heap_setCell _ _ _ _ (fun e => by simp at e; rw [e] at hj; exact hF hj)).trans ho
/-- A pointer more. -/
theorem ptrs_app {T base g n cap : Nat} {w w' : World} {kv v : Value} {vs : List Value} {l : List Nd} {x : Nd} (hP : PtrsF T (Far base kv) w vs l) (hx : NodeF T (Far base kv) w v x) (hg : w.grownBy w' kv.ownBlock) (hat : kv.ownBlock = some g ∨ g = w.heap.size) : PtrsF T (Far base (.slice (some ⟨g, 0, none⟩) n cap)) w' (vs ++ [v]) (l ++ [x]) := by
  have hk : KeptF (Far base kv) w w' := kept_grown hg fun j hj => hj.2
  have hFG : ∀ b, Far base kv b → b < w.heap.size → Far base (.slice (some ⟨g, 0, none⟩) n cap) b := fun b hb hl => ⟨hb.1, fun e => by
    have e2 : b = g := by simpa [Value.ownBlock] using e
    rcases hat with h | h
    · exact hb.2 (by rw [h, e2])
    · omega⟩
  exact (hP.kept hk hFG).snoc (hx.kept hk hFG)
theorem info_ptr : (Tryz.prog.info? 27).map (fun i => (i.zero, i.size, i.bytes)) = some (some (.pointer none), 1, 8) := by kernel_rfl
theorem info_parts {P : Program} {t : Nat} {z : Option Value} {s b : Nat} (h : (P.info? t).map (fun i => (i.zero, i.size, i.bytes)) = some (z, s, b)) : ∃ i, P.info? t = some i ∧ i.zero = z ∧ i.size = s ∧ i.bytes = b := by
  cases hi : P.info? t with
  | none => rw [hi] at h; cases h
  | some i => rw [hi] at h; simp only [Option.map_some, Option.some.injEq, Prod.mk.injEq] at h; exact ⟨i, rfl, h.1, h.2.1, h.2.2⟩
theorem own_ge {W : World} {base e s n : Nat} {v : Value} {xs : List Value} (h : W.ownsRow base e s v n xs) (j : Nat) (ej : v.ownBlock = some j) : base ≤ j ∧ j < W.heap.size := by
  rcases h.2 with ⟨rfl, _⟩ | ⟨g, cap, cur, rfl, hb, hg, _⟩
  · cases ej
  · have : g = j := by simpa [Value.ownBlock] using ej
    exact ⟨by omega, by rw [← this]; exact h_lt hg⟩
theorem own_slice {W : World} {base e s k : Nat} {v : Value} {xs : List Value} (h : W.ownsRow base e s v k xs) : ∃ a c, v = .slice a k c := by
  rcases h.2 with ⟨rfl, rfl⟩ | ⟨g, cap, cur, rfl, _⟩
  · exact ⟨none, 0, rfl⟩
  · exact ⟨_, cap, rfl⟩
theorem row_setG {w : World} {ob E i n : Nat} {kv v : Value} {vs : List Value} (h : w.ownsRow (ob + 1) E 1 kv n vs) : (w.setCell ⟨ob, i, none⟩ v).ownsRow (ob + 1) E 1 kv n vs := by
  refine ⟨h.1, ?_⟩
  rcases h.2 with hn | ⟨g, cap, cur, h1, hb, hg, r⟩
  · exact .inl hn
  · exact .inr ⟨g, cap, cur, h1, hb, by rw [Below.heap_setCell _ _ _ _ (by simp; omega)]; exact hg, r⟩
theorem row_below {w w' : World} {base E n : Nat} {kv : Value} {vs : List Value} (h : w.ownsRow base E 1 kv n vs) (hB : Below w.heap.size w w') : w'.ownsRow base E 1 kv n vs := by
  refine ⟨h.1, ?_⟩
  rcases h.2 with hn | ⟨g, cap, cur, h1, hb, hg, r⟩
  · exact .inl hn
  · exact .inr ⟨g, cap, cur, h1, hb, by rw [hB.block g (h_lt hg)]; exact hg, r⟩
theorem cell_one (w : World) (v : Value) (T : Nat) : ∀ j u, [v][j]? = some u → (w.alloc (.cells #[v] T)).cell? ((⟨w.heap.size, 0, none⟩ : Addr).add j) = some u := by
  intro j u h
  rcases j with _ | j
  · cases h
    rw [Addr.add_lit]
    exact h_cell (al_new w _) 0 rfl
  · simp at h
end Go.Proofs.YtlekfdkahlobiaaGreatDoor.Re

namespace Go.Proofs.YtlekfdkahlobiaaGreatDoor.Re
open Go.Proofs.YtlekfdkahlobiaaGreatDoor.Tr

/-- How many nodes. -/
def Nd.count : Nd → Nat
  | ⟨_, _, _, _, l⟩ => 1 + counts l
  where counts : List Nd → Nat
  | [] => 0
  | x :: l => x.count + counts l
theorem counts_mem : ∀ {l : List Nd} {x : Nd}, x ∈ l → x.count ≤ Nd.count.counts l
  | y :: l, x, h => by
    rw [Nd.count.counts]
    rcases List.mem_cons.1 h with rfl | h
    · omega
    · have := counts_mem h; omega
theorem counts_len : ∀ l : List Nd, l.length ≤ Nd.count.counts l
  | [] => Nat.le_refl _
  | x :: l => by
    have := counts_len l
    rw [Nd.count.counts]
    have h1 : 1 ≤ x.count := by cases x; rw [Nd.count]; omega
    simp only [List.length_cons]
    omega
theorem count_join (k : Nat) : ∀ l : List Nd, l ≠ [] → (joinN k l).count + 1 ≤ Nd.count.counts l + l.length
  | [], h => absurd rfl h
  | [x], _ => by show x.count + 1 ≤ x.count + 0 + 1; omega
  | x :: y :: l, _ => by
    show (⟨k, noB, 0, 0, x :: y :: l⟩ : Nd).count + 1 ≤ _
    rw [Nd.count]
    simp only [List.length_cons]
    omega
theorem count_join0 (k : Nat) (l : List Nd) : (joinN k l).count ≤ Nd.count.counts l + l.length + 1 := by
  cases l with
  | nil => exact Nat.le_refl _
  | cons x l => have := count_join k (x :: l) (by simp); omega
def CntL (n : Nat) (r : RL) : Prop := ∀ q, r = some q → Nd.count.counts q.1 + q.1.length + 2 * q.2.length ≤ 2 * n
def Cnt1 (n : Nat) (r : R1) : Prop := ∀ q, r = some q → q.1.count + 1 + 2 * q.2.length ≤ 2 * n
theorem cnt_bracket {fold : Bool} {s : List UInt8} : Cnt1 s.length (bracketS fold s) := by
  intro q h
  have hl := bracketS_len h
  unfold bracketS at h
  cases hp : partsS (s.length + 1) true noB (behindNot s) with
  | none => rw [hp] at h; cases h
  | some u =>
    rw [hp] at h
    cases h
    show 1 + 0 + 1 + 2 * u.2.length ≤ _
    have : u.2.length < s.length := hl
    omega
theorem cnt_rep {ext : Bool} {x : Nd} {s : List UInt8} {n : Nat} (h : x.count + 1 + 2 * s.length ≤ 2 * n) : Cnt1 n (repS ext x s) := by
  intro q hq
  unfold repS at hq
  split at hq
  · cases hq; exact h
  · cases hq
  · rename_i u hu
    split at hq
    · cases hq
    · cases hq
      have := timesS_len hu
      show 1 + (x.count + 0) + 1 + 2 * u.2.2.length ≤ _
      omega
section
variable {mk : Nd → Nd} {fold : Bool}
theorem cnt_close (hmk : ∀ x, (mk x).count ≤ x.count + 1) {k : Nat} {shut s : List UInt8} {r : RL} (hs : 1 ≤ shut.length) (hr : CntL s.length r) : Cnt1 (s.length + 1) (closeS mk k shut r) := by
  intro q h
  unfold closeS at h
  cases r with
  | none => cases h
  | some t =>
    have := hr t rfl
    rw [Option.bind_some] at h
    split at h
    · rename_i hb
      cases h
      have h1 := count_join0 k t.1
      have h2 := hmk (joinN k t.1)
      have h3 : shut.length ≤ t.2.length := (List.isPrefixOf_iff_prefix.1 hb).length_le
      simp only [List.length_drop]
      omega
    · cases h
theorem cnt_atomE (hmk : ∀ x, (mk x).count ≤ x.count + 1) {c : UInt8} {r : List UInt8} (hG : CntL r.length (goS mk fold 0 r)) : Cnt1 (r.length + 1) (atomE mk fold (goS mk fold) c r) := by
  intro q h
  unfold atomE at h
  split at h
  · exact cnt_close hmk (by simp) hG q h
  split at h
  · have := cnt_bracket q h; omega
  split at h
  · cases h; show 1 + 0 + 1 + _ ≤ _; dsimp only; omega
  split at h
  · cases h; show 1 + 0 + 1 + _ ≤ _; dsimp only; omega
  split at h
  · cases h; show 1 + 0 + 1 + _ ≤ _; dsimp only; omega
  split at h
  · cases r with
    | nil => cases h
    | cons d t =>
      rw [quoteE] at h
      split at h
      · cases h
      · cases h; show 1 + 0 + 1 + _ ≤ _; simp only [List.length_cons]; omega
  split at h
  · cases h
  · cases h; show 1 + 0 + 1 + _ ≤ _; dsimp only; omega
theorem cnt_pieceE (hmk : ∀ x, (mk x).count ≤ x.count + 1) {c : UInt8} {r : List UInt8} (hG : CntL r.length (goS mk fold 0 r)) : Cnt1 (r.length + 1) (pieceE mk fold (goS mk fold) c r) := by
  intro q h
  unfold pieceE at h
  cases ha : atomE mk fold (goS mk fold) c r with
  | none => rw [ha] at h; cases h
  | some u =>
    have h1 := cnt_atomE hmk hG u ha
    rw [ha, Option.bind_some] at h
    split at h
    · split at h
      · cases h
      · cases h; exact h1
    · exact cnt_rep h1 q h
theorem cnt_plainB (hmk : ∀ x, (mk x).count ≤ x.count + 1) {c : UInt8} {r : List UInt8} (hG : ∀ d t, r = d :: t → CntL t.length (goS mk fold 2 t)) : Cnt1 (r.length + 1) (plainB mk fold (goS mk fold) c r) := by
  intro q h
  unfold plainB at h
  split at h
  · have := cnt_bracket q h; omega
  split at h
  · cases h; show 1 + 0 + 1 + _ ≤ _; dsimp only; omega
  split at h
  · cases r with
    | nil => cases h
    | cons d t =>
      rw [quoteB] at h
      split at h
      · have := cnt_close hmk (by simp) (hG d t rfl) q h
        simp only [List.length_cons]
        omega
      split at h
      · cases h
      · cases h; show 1 + 0 + 1 + _ ≤ _; simp only [List.length_cons]; omega
  · cases h; show 1 + 0 + 1 + _ ≤ _; dsimp only; omega
theorem cnt_cons {x : Nd} {n : Nat} {s : List UInt8} {r : RL} (hx : x.count + 1 + 2 * s.length ≤ 2 * n) (hr : CntL s.length r) : CntL n (consR x r) := by
  intro q h
  unfold consR at h
  cases r with
  | none => cases h
  | some t =>
    cases h
    have := hr t rfl
    show x.count + Nd.count.counts t.1 + (t.1.length + 1) + 2 * t.2.length ≤ _
    omega
theorem goS_cnt (hmk : ∀ x, (mk x).count ≤ x.count + 1) : ∀ (n m : Nat) (s : List UInt8), rank m s ≤ n → CntL s.length (goS mk fold m s)
  | 0, m, s, h => absurd (rank_pos m s) (by omega)
  | n + 1, m, s, hr => by
    have ih : ∀ m' s', rank m' s' < rank m s → CntL s'.length (goS mk fold m' s') := fun m' s' h => goS_cnt hmk n m' s' (by omega)
    rw [goS_eq m s]
    unfold step
    by_cases h0 : m = 0
    · subst h0
      rw [if_pos rfl]
      intro q h
      cases h1 : goS mk fold 1 s with
      | none => rw [h1] at h; cases h
      | some u =>
        have hu := ih 1 s (by simp [rank]) u h1
        rw [h1, Option.bind_some] at h
        unfold stepA at h
        split at h
        · cases h
        rename_i hne
        have hj := count_join 4 u.1 hne
        split at h
        · rename_i hz
          have hz2 := lt_of_some hz
          have hl := goS_len _ _ _ h1
          have := cnt_cons (x := joinN 4 u.1) (n := s.length) (s := u.2.drop 1) (by simp only [List.length_drop]; omega) (ih 0 (u.2.drop 1) (rank_lt (by simp; omega))) q h
          exact this
        · cases h
          show (joinN 4 u.1).count + 0 + (0 + 1) + 2 * u.2.length ≤ _
          omega
    rw [if_neg h0]
    by_cases h1 : m = 1
    · rw [if_pos h1]
      cases s with
      | nil => intro q h; cases h; exact Nat.le_refl _
      | cons c r =>
        rw [stepE]
        split
        · intro q h; cases h; show 0 + 0 + _ ≤ _; dsimp only; omega
        · intro q h
          cases hp : pieceE mk fold (goS mk fold) c r with
          | none => rw [hp] at h; cases h
          | some u =>
            have h2 := cnt_pieceE hmk (ih 0 r (rank_lt (by simp))) u hp
            have hl := pieceE_len goS_len hp
            rw [hp, Option.bind_some] at h
            exact cnt_cons h2 (ih 1 u.2 (rank_lt (by simp; omega))) q h
    · rw [if_neg h1]
      cases s with
      | nil => intro q h; cases h; exact Nat.le_refl _
      | cons c r =>
        rw [stepB]
        split
        · intro q h; cases h; show 0 + 0 + _ ≤ _; dsimp only; omega
        split
        · exact cnt_cons (by show 1 + 0 + 1 + _ ≤ _; simp only [List.length_cons]; omega) (ih 3 r (rank_lt (by simp)))
        split
        · exact cnt_cons (by show 1 + 0 + 1 + _ ≤ _; simp only [List.length_cons]; omega) (ih 4 r (rank_lt (by simp)))
        split
        · intro q h; cases h
        · intro q h
          cases hp : plainB mk fold (goS mk fold) c r with
          | none => rw [hp] at h; cases h
          | some u =>
            have h2 := cnt_plainB hmk (fun d t e => ih 2 t (rank_lt (by rw [e]; simp; omega))) u hp
            have hl := plainB_len goS_len hp
            rw [hp, Option.bind_some] at h
            cases hr2 : repS false u.1 u.2 with
            | none => rw [hr2] at h; cases h
            | some t =>
              have h3 := cnt_rep h2 t hr2
              have hl2 := repS_len hr2
              rw [hr2, Option.bind_some] at h
              exact cnt_cons h3 (ih 4 t.2 (rank_lt (by simp; omega))) q h
theorem read_cnt (hmk : ∀ x, (mk x).count ≤ x.count + 1) {ext : Bool} {s : List UInt8} {x : Nd} (h : readS mk ext fold s = some x) : x.count ≤ 2 * s.length + 1 := by
  unfold readS at h
  cases hu : goS mk fold (if ext = true then 0 else 2) s with
  | none => rw [hu] at h; cases h
  | some u =>
    rw [hu, Option.bind_some] at h
    split at h
    · cases h
      have h1 := goS_cnt hmk _ _ s (Nat.le_refl _) u hu
      have h2 := count_join0 (if ext = true then 5 else 4) u.1
      omega
    · cases h
end
end Go.Proofs.YtlekfdkahlobiaaGreatDoor.Re
