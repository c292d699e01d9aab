/- A copy of nodes: nodes whose rows lie outside of one block. -/
import Derived.Test.YtlekfdkahlobiaaGreatMKids
namespace Go.Proofs.YtlekfdkahlobiaaGreat.Re
open Go.Proofs.YtlekfdkahlobiaaGreat.Tr
open Go.RowKit

/-- A node, with all that it is made of; no row of kids is the block gl. -/
def NodeQ (gl : Nat) (w : World) : Value → Nd → Prop
  | v, ⟨k, p, m, n, l⟩ => ∃ b kv, v = ptr b ∧ BlkAt 64 w b k p m n kv ∧
      ((kv = .slice none 0 0 ∧ l = []) ∨ ∃ kb off cap cs, kv = .slice (some ⟨kb, off, none⟩) l.length cap ∧ (l.length ≤ cap ∧ cap ≤ 9223372036854775807) ∧ kb ≠ gl ∧ w.heap[kb]? = some (.cells cs 36) ∧ kidsQ cs off 0 l)
  where kidsQ (cs : Array Value) (off : Nat) : Nat → List Nd → Prop
  | _, [] => True
  | j, x :: l => (∃ v, cs[off + j]? = some v ∧ NodeQ gl w v x) ∧ kidsQ cs off (j + 1) l
/-- A row of kids. -/
def RowQ (gl : Nat) (w : World) (kv : Value) (l : List Nd) : Prop :=
  (kv = .slice none 0 0 ∧ l = []) ∨ ∃ kb off cap cs, kv = .slice (some ⟨kb, off, none⟩) l.length cap ∧ (l.length ≤ cap ∧ cap ≤ 9223372036854775807) ∧ kb ≠ gl ∧ w.heap[kb]? = some (.cells cs 36) ∧ NodeQ.kidsQ gl w cs off 0 l
theorem nodeQ_iff {gl : Nat} {w : World} {v : Value} {k : Nat} {p : UInt8 → Bool} {m n : Int} {l : List Nd} : NodeQ gl w v ⟨k, p, m, n, l⟩ ↔ ∃ b kv, v = ptr b ∧ BlkAt 64 w b k p m n kv ∧ RowQ gl w kv l := by
  rw [NodeQ]
  exact Iff.rfl
theorem kidsQ_iff {gl : Nat} {w : World} {cs : Array Value} {off : Nat} : ∀ {l : List Nd} {j : Nat}, NodeQ.kidsQ gl w cs off j l ↔ ∀ (i : Nat) (x : Nd), l[i]? = some x → ∃ v, cs[off + (j + i)]? = some v ∧ NodeQ gl w v x
  | [], j => by rw [NodeQ.kidsQ]; exact ⟨fun _ i x h => by simp at h, fun _ => trivial⟩
  | y :: l, j => by
    rw [NodeQ.kidsQ, kidsQ_iff (l := l) (j := j + 1)]
    constructor
    · rintro ⟨h1, h2⟩ i x hx
      cases i with
      | zero => cases hx; exact h1
      | succ i =>
        have := h2 i x (by simpa using hx)
        rw [show j + 1 + i = j + (i + 1) by omega] at this
        exact this
    · intro h
      refine ⟨h 0 y rfl, fun i x hx => ?_⟩
      have := h (i + 1) x (by simpa using hx)
      rw [show j + 1 + i = j + (i + 1) by omega]
      exact this
theorem NodeP.q {w : World} {gl : Nat} (hg : w.heap.size ≤ gl) : ∀ {v : Value} {x : Nd}, NodeP w v x → NodeQ gl w v x
  | v, ⟨k, p, m, n, l⟩, h => by
    rw [NodeP] at h
    rw [NodeQ]
    obtain ⟨b, kv, hv, hB, hk⟩ := h
    refine ⟨b, kv, hv, hB, ?_⟩
    rcases hk with hk | ⟨kb, off, cap, cs, h1, h2, h3, h4⟩
    · exact .inl hk
    · exact .inr ⟨kb, off, cap, cs, h1, h2, by have := h_lt h3; omega, h3, kids l 0 cs off h4⟩
  where kids : ∀ (l : List Nd) (j : Nat) (cs : Array Value) (off : Nat), NodeP.kidsP w cs off j l → NodeQ.kidsQ gl w cs off j l
  | [], _, _, _, _ => by rw [NodeQ.kidsQ]; trivial
  | x :: l, j, cs, off, h => by
    rw [NodeP.kidsP] at h
    rw [NodeQ.kidsQ]
    obtain ⟨⟨v, h1, h2⟩, h3⟩ := h
    exact ⟨⟨v, h1, NodeP.q hg h2⟩, kids l (j + 1) cs off h3⟩
theorem NodeQ.p {w : World} {gl : Nat} : ∀ {v : Value} {x : Nd}, NodeQ gl w v x → NodeP w v x
  | v, ⟨k, p, m, n, l⟩, h => by
    rw [NodeQ] at h
    rw [NodeP]
    obtain ⟨b, kv, hv, hB, hk⟩ := h
    refine ⟨b, kv, hv, hB, ?_⟩
    rcases hk with hk | ⟨kb, off, cap, cs, h1, h2, _, h3, h4⟩
    · exact .inl hk
    · exact .inr ⟨kb, off, cap, cs, h1, h2, h3, kids l 0 cs off h4⟩
  where kids : ∀ (l : List Nd) (j : Nat) (cs : Array Value) (off : Nat), NodeQ.kidsQ gl w cs off j l → NodeP.kidsP w cs off j l
  | [], _, _, _, _ => by rw [NodeP.kidsP]; trivial
  | x :: l, j, cs, off, h => by
    rw [NodeQ.kidsQ] at h
    rw [NodeP.kidsP]
    obtain ⟨⟨v, h1, h2⟩, h3⟩ := h
    exact ⟨⟨v, h1, NodeQ.p h2⟩, kids l (j + 1) cs off h3⟩
/-- Nodes, and their rows but for one block, are as they were. -/
def QKeep (gl : Nat) (w w' : World) : Prop := ∀ (b : Nat) (cs : Array Value) (T : Nat), T = 64 ∨ (T = 36 ∧ b ≠ gl) → w.heap[b]? = some (.cells cs T) → w'.heap[b]? = some (.cells cs T)
theorem QKeep.of {gl : Nat} {w w' : World} (h : Below w.heap.size w w') : QKeep gl w w' := fun b _ _ _ hb => (h.block b (h_lt hb)).trans hb
theorem NodeQ.keep {gl gl' : Nat} {w w' : World} (hk : QKeep gl w w') (hg : gl' = gl ∨ w.heap.size ≤ gl') : ∀ {v : Value} {x : Nd}, NodeQ gl w v x → NodeQ gl' w' v x
  | v, ⟨k, p, m, n, l⟩, h => by
    rw [NodeQ] at h ⊢
    obtain ⟨b, kv, hv, hB, hd⟩ := h
    refine ⟨b, kv, hv, hk b _ _ (.inl rfl) hB, ?_⟩
    rcases hd with hd | ⟨kb, off, cap, cs, h1, h2, h5, h3, h4⟩
    · exact .inl hd
    · exact .inr ⟨kb, off, cap, cs, h1, h2, by rcases hg with rfl | hg; exact h5; have := h_lt h3; omega, hk kb _ _ (.inr ⟨rfl, h5⟩) h3, kids l 0 cs off h4⟩
  where kids : ∀ (l : List Nd) (j : Nat) (cs : Array Value) (off : Nat), NodeQ.kidsQ gl w cs off j l → NodeQ.kidsQ gl' w' cs off j l
  | [], _, _, _, _ => by rw [NodeQ.kidsQ]; trivial
  | x :: l, j, cs, off, h => by
    rw [NodeQ.kidsQ] at h ⊢
    obtain ⟨⟨v, h1, h2⟩, h3⟩ := h
    exact ⟨⟨v, h1, NodeQ.keep hk hg h2⟩, kids l (j + 1) cs off h3⟩
theorem ndC_kv_eq {k k' : Nat} {p p' : UInt8 → Bool} {m m' n n' : Int} {kv kv' : Value} (h : ndC k p m n kv = ndC k' p' m' n' kv') : kv = kv' := by
  have h1 := ndC_kv k p m n kv
  rw [h, ndC_kv] at h1
  exact (Option.some.inj h1).symm
/-- A node of which another row of the same kids is laid: all nodes are what they were. -/
theorem NodeQ.set {gl : Nat} {w : World} {nb k : Nat} {p : UInt8 → Bool} {m n : Int} {kv kv' : Value} (hb : BlkAt 64 w nb k p m n kv) (hr : ∀ l, RowQ gl w kv l → RowQ gl w kv' l) : ∀ {v : Value} {x : Nd}, NodeQ gl w v x → NodeQ gl (w.setCell ⟨nb, 259, none⟩ kv') v x
  | v, ⟨k', p', m', n', l⟩, h => by
    rw [nodeQ_iff] at h ⊢
    obtain ⟨b, kvb, rfl, hB, hd⟩ := h
    have hrow : ∀ r, RowQ gl w r l → RowQ gl (w.setCell ⟨nb, 259, none⟩ kv') r l := by
      intro r h
      rcases h with h | ⟨kb, off, cap, cs, h1, h2, h5, h3, h4⟩
      · exact .inl h
      · refine .inr ⟨kb, off, cap, cs, h1, h2, h5, ?_, kids l 0 cs off h4⟩
        refine (Below.heap_setCell _ _ _ _ fun e => ?_).trans h3
        have e : kb = nb := e
        rw [e, hb] at h3
        injection h3 with h3
        injection h3 with _ h6 _
        exact absurd h6 (by decide)
    by_cases e : b = nb
    · subst e
      have e1 : ndC k p m n kv = ndC k' p' m' n' kvb := by
        have := hb.symm.trans hB
        injection this with this
        injection this
      have e2 := ndC_kv_eq e1
      subst e2
      refine ⟨b, kv', rfl, ?_, hrow kv' (hr l hd)⟩
      have h1 := h_set hB 259 kv'
      rw [p_ndC_setkv] at h1
      exact h1
    · exact ⟨b, kvb, rfl, (Below.heap_setCell _ _ _ _ (fun h => e h)).trans hB, hrow kvb hd⟩
  where kids : ∀ (l : List Nd) (j : Nat) (cs : Array Value) (off : Nat), NodeQ.kidsQ gl w cs off j l → NodeQ.kidsQ gl (w.setCell ⟨nb, 259, none⟩ kv') cs off j l
  | [], _, _, _, _ => by rw [NodeQ.kidsQ]; trivial
  | x :: l, j, cs, off, h => by
    rw [NodeQ.kidsQ] at h ⊢
    obtain ⟨⟨v, h1, h2⟩, h3⟩ := h
    exact ⟨⟨v, h1, NodeQ.set hb hr h2⟩, kids l (j + 1) cs off h3⟩
/-- A node in another block with the same cells. -/
theorem NodeQ.twin {gl : Nat} {w : World} {b b' : Nat} {cs : Array Value} (h1 : w.heap[b]? = some (.cells cs 64)) (h2 : w.heap[b']? = some (.cells cs 64)) {x : Nd} (h : NodeQ gl w (ptr b) x) : NodeQ gl w (ptr b') x := by
  obtain ⟨k, p, m, n, l⟩ := x
  rw [nodeQ_iff] at h ⊢
  obtain ⟨c, kv, e, hB, hd⟩ := h
  have e : c = b := by cases e; rfl
  subst e
  have e2 : cs = ndC k p m n kv := by
    have := h1.symm.trans hB
    injection this with this
    injection this
  rw [e2] at h2
  exact ⟨b', kv, rfl, h2, hd⟩
theorem NodeQ.open {gl : Nat} {w : World} {v : Value} {k : Nat} {p : UInt8 → Bool} {m n : Int} {l : List Nd} (h : NodeQ gl w v ⟨k, p, m, n, l⟩) :
    ∃ (b : Nat) (a : Option Addr) (cap : Nat) (L : List (Value × Nd)), v = ptr b ∧ BlkAt 64 w b k p m n (.slice a L.length cap) ∧ L.length ≤ cap ∧ cap ≤ 9223372036854775807 ∧ L.map Prod.snd = l ∧ ∀ (i : Nat) (q : Value × Nd), L[i]? = some q → NodeQ gl w q.1 q.2 ∧ ∃ kb off, a = some ⟨kb, off, none⟩ ∧ w.cell? ⟨kb, off + i, none⟩ = some q.1 := by
  rw [nodeQ_iff] at h
  obtain ⟨b, kv, rfl, hB, hk⟩ := h
  rcases hk with ⟨rfl, rfl⟩ | ⟨kb, off, cap, cs, rfl, h2, h5, h3, h4⟩
  · exact ⟨b, none, 0, [], rfl, hB, Nat.le_refl _, by decide, rfl, fun i q hq => by simp at hq⟩
  · have hL : ∀ (l : List Nd) (j : Nat), NodeQ.kidsQ gl w cs off j l → ∃ L : List (Value × Nd), L.map Prod.snd = l ∧ ∀ (i : Nat) (q : Value × Nd), L[i]? = some q → NodeQ gl w q.1 q.2 ∧ cs[off + (j + i)]? = some q.1 := by
      intro l
      induction l with
      | nil => intro j _; exact ⟨[], rfl, fun i q hq => by simp at hq⟩
      | cons x l ih =>
        intro j h
        rw [NodeQ.kidsQ] at h
        obtain ⟨⟨v, h1, h2⟩, h3⟩ := h
        obtain ⟨L, e, hL⟩ := ih (j + 1) h3
        refine ⟨(v, x) :: L, by rw [List.map_cons, e], fun i q hq => ?_⟩
        cases i with
        | zero => cases hq; exact ⟨h2, h1⟩
        | succ i =>
          have := hL i q (by simpa using hq)
          rw [show j + 1 + i = j + (i + 1) by omega] at this
          exact this
    obtain ⟨L, e, hL⟩ := hL l 0 h4
    have hl : L.length = l.length := by rw [← e, List.length_map]
    refine ⟨b, some ⟨kb, off, none⟩, cap, L, rfl, by rw [hl]; exact hB, by omega, h2.2, e, fun i q hq => ?_⟩
    obtain ⟨h5, h6⟩ := hL i q hq
    rw [Nat.zero_add] at h6
    exact ⟨h5, kb, off, rfl, h_cell h3 _ h6⟩
/-- While kids are copied. -/
structure CkI (gl : Nat) (w0 : World) (L : List (Value × Nd)) (wr : World) (v : Value) (L1 : List (Value × Nd)) : Prop where
  bel : Below w0.heap.size w0 wr
  row : wr.ownsRow w0.heap.size 36 1 v L1.length (L1.map Prod.fst)
  nil : L1 = [] → v = .slice none 0 0
  cop : ∀ (j : Nat) (q : Value × Nd), L1[j]? = some q → ∃ b0 b cs, L[j]? = some (ptr b0, q.2) ∧ q.1 = ptr b ∧ w0.heap.size ≤ b ∧ w0.heap[b0]? = some (.cells cs 64) ∧ wr.heap[b]? = some (.cells cs 64)
/-- What copyKids leaves. -/
def CkO (gl nb : Nat) (L : List (Value × Nd)) (w0 : World) (e : Ending) (w' : World) : Prop :=
  ∃ v L', e = .returned v ∧ L'.map Prod.snd = L.map Prod.snd ∧ w'.ownsRow w0.heap.size 36 1 v L'.length (L'.map Prod.fst) ∧ (L' = [] → v = .slice none 0 0) ∧ (∀ q ∈ L', NodeQ gl w' q.1 q.2 ∧ ∃ b, q.1 = ptr b ∧ w0.heap.size ≤ b) ∧ (∀ v z, NodeQ gl w0 v z → NodeQ gl w' v z) ∧ Bar nb w0 w'
theorem ck_fin {gl nb k : Nat} {p : UInt8 → Bool} {m n : Int} {a : Option Addr} {cap : Nat} {w0 wr : World} {L L1 : List (Value × Nd)} {v : Value} (hgl : gl < w0.heap.size) (hb : BlkAt 64 w0 nb k p m n (.slice a L.length cap)) (hk : ∀ (i : Nat) (q : Value × Nd), L[i]? = some q → NodeQ gl w0 q.1 q.2 ∧ ∃ kb off, a = some ⟨kb, off, none⟩ ∧ w0.cell? ⟨kb, off + i, none⟩ = some q.1) (h : CkI gl w0 L wr v L1) (hl : L1.length = L.length) : CkO gl nb L w0 (.returned v) (wr.setCell ⟨nb, 259, none⟩ v) := by
  have hnd : ∀ {j : Nat} {q : Value × Nd}, L1[j]? = some q → ∃ b0 b cs, L[j]? = some (ptr b0, q.2) ∧ q.1 = ptr b ∧ w0.heap.size ≤ b ∧ wr.heap[b0]? = some (.cells cs 64) ∧ wr.heap[b]? = some (.cells cs 64) := fun hq => by
    obtain ⟨b0, b, cs, h1, h2, h3, h4, h5⟩ := h.cop _ _ hq
    exact ⟨b0, b, cs, h1, h2, h3, (h.bel.block _ (h_lt h4)).trans h4, h5⟩
  have hsnd : L1.map Prod.snd = L.map Prod.snd := by
    apply List.ext_getElem?
    intro j
    rw [List.getElem?_map, List.getElem?_map]
    cases hj : L1[j]? with
    | none =>
      have : L1.length ≤ j := List.getElem?_eq_none_iff.1 hj
      rw [List.getElem?_eq_none (l := L) (by omega)]
    | some q =>
      obtain ⟨b0, b, cs, h1, _⟩ := hnd hj
      rw [h1]
      rfl
  have hbw : BlkAt 64 wr nb k p m n (.slice a L.length cap) := (h.bel.block _ (h_lt hb)).trans hb
  have hset : ∀ {v' : Value} {z : Nd}, NodeQ gl wr v' z → NodeQ gl (wr.setCell ⟨nb, 259, none⟩ v) v' z := by
    intro v' z hz
    refine NodeQ.set hbw (fun l hr => ?_) hz
    rcases hr with ⟨e, rfl⟩ | ⟨kb, off, cap', cs, e, h2, h5, h3, h4⟩
    · injection e with _ el _
      have : L1 = [] := List.length_eq_zero_iff.1 (by omega)
      exact .inl ⟨h.nil this, rfl⟩
    · injection e with ea el ec
      subst ea
      subst ec
      rcases h.row.2 with ⟨rfl, h0⟩ | ⟨g, cap2, cur, rfl, hbg, hg, hle, hcap, hsz, ht⟩
      · have : l = [] := List.length_eq_zero_iff.1 (by omega)
        exact .inl ⟨rfl, this⟩
      · refine .inr ⟨g, 0, cap2, cur, by rw [hl, el], ⟨by omega, by unfold maxLen at hcap; exact hcap⟩, by omega, hg, kidsQ_iff.2 fun i x hx => ?_⟩
        obtain ⟨u, hu1, hu2⟩ := kidsQ_iff.1 h4 i x hx
        have hi : i < L1.length := by have := (List.getElem?_eq_some_iff.1 hx).1; omega
        obtain ⟨q, hq⟩ : ∃ q, L1[i]? = some q := ⟨_, List.getElem?_eq_getElem hi⟩
        obtain ⟨b0, b, cs0, g1, g2, g3, g4, g5⟩ := hnd hq
        obtain ⟨_, kb', off', e', hc⟩ := hk i _ g1
        cases e'
        rw [Nat.zero_add] at hu1
        have hc2 := h_cell h3 _ hu1
        have hc3 := cell_below h.bel hc
        have eu : u = ptr b0 := Option.some.inj (hc2.symm.trans hc3)
        subst eu
        refine ⟨ptr b, ?_, NodeQ.twin g4 g5 hu2⟩
        have h6 : (L1.map Prod.fst)[i]? = some (ptr b) := by rw [List.getElem?_map, hq, Option.map_some, g2]
        rw [← ht, List.getElem?_take, if_pos (by omega)] at h6
        rw [Nat.zero_add, Nat.zero_add]
        simpa using h6
  refine ⟨v, L1, rfl, hsnd, ?_, h.nil, fun q hq => ?_, fun v' z hz => hset (hz.keep (QKeep.of h.bel) (.inl rfl)), (Bar.of h.bel).trans (Bar.set _ _ _ _)⟩
  · exact row_keep h.row fun g cur hg => (Below.heap_setCell _ _ _ _ fun e => by
      have e : g = nb := e
      rw [e, hbw] at hg
      injection hg with hg
      injection hg with _ h6 _
      exact absurd h6 (by decide)).trans hg
  · obtain ⟨j, hj⟩ := List.getElem?_of_mem hq
    obtain ⟨b0, b, cs, h1, h2, h3, h4, h5⟩ := hnd hj
    refine ⟨?_, b, h2, h3⟩
    rw [h2]
    have h6 := (hk j _ h1).1
    exact hset (NodeQ.twin h4 h5 (h6.keep (QKeep.of h.bel) (.inl rfl)))
end Go.Proofs.YtlekfdkahlobiaaGreat.Re
