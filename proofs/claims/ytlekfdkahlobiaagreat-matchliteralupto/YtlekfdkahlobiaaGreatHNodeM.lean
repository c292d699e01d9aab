/- Node: a copy of an expression's nodes. -/
import Derived.Deep.LoopGhost
import Derived.Test.YtlekfdkahlobiaaGreatHNd2
import Derived.Deep.AppendLies
namespace Go.Proofs.YtlekfdkahlobiaaGreat.Re
open Go.Proofs.YtlekfdkahlobiaaGreat.Tr
open Go.RowKit

theorem sizes_le (k : Nat) (p : UInt8 → Bool) (m n : Int) (l : List Nd) : Nd.size.sizes l + 1 ≤ (⟨k, p, m, n, l⟩ : Nd).size := by
  rw [Nd.size]
  split
  · have : Nd.size.sizes l * 1 ≤ Nd.size.sizes l * max 1 (if n < 0 then m else n).toNat := Nat.mul_le_mul_left _ (Nat.le_max_left _ _)
    omega
  · omega

theorem Bar.blk2 {g c : Nat} {w w' : World} {cs cs' : Array Value} {T T' : Nat} (h : Bar g w w') (hg : w.heap[g]? = some (.cells cs T)) (hc : w.heap[c]? = some (.cells cs' T')) (hT : T' ≠ T) : w'.heap[c]? = some (.cells cs' T') :=
  (h.block c (h_lt hc) (fun e => by
    rw [e, hg] at hc
    injection hc with hc
    injection hc with _ h2 _
    exact hT h2.symm)).trans hc
/-- Between two rounds. -/
structure NdI (w : World) (root : Nat) (x : Nd) (wr : World) (gl cap : Nat) (P : List (Value × Nd)) : Prop where
  root : NodeQ gl wr (ptr root) x
  row : wr.ownsRow w.heap.size 36 1 (.slice (some ⟨gl, 0, none⟩) P.length cap) P.length (P.map Prod.fst)
  pend : ∀ q ∈ P, NodeQ gl wr q.1 q.2 ∧ ∃ b, q.1 = ptr b ∧ w.heap.size ≤ b
  bel : Below w.heap.size w wr
theorem append_none (ty : TypeId) (b : Option Addr) (n cap : Nat) (h : n ≤ cap) (w : World) : (Builtin.append_ #[62, 62] ty #[.slice b n cap, .slice none 0 0]).run Tryz.prog w = .ok (.slice b n cap) w := by
  have z := Tryz.sizeOf36
  cases b with
  | none => simp [Builtin.append_, go_sem, z, Builtin.lenOf, Builtin.firstCells, h]
  | some a => simp [Builtin.append_, go_sem, z, Builtin.lenOf, Builtin.firstCells, h, storeCells]
theorem sumS_app : ∀ a b : List (Value × Nd), sumS (a ++ b) = sumS a + sumS b
  | [], b => by simp [sumS]
  | p :: a, b => by rw [List.cons_append, sumS, sumS, sumS_app a b]; omega
theorem sumS_len : ∀ a : List (Value × Nd), a.length ≤ sumS a
  | [] => Nat.zero_le _
  | p :: a => by have := sumS_len a; have := size_pos p.2; rw [List.length_cons, sumS]; omega
theorem NdI.open {w : World} {root : Nat} {x : Nd} {wr : World} {gl cap : Nat} {P0 : List (Value × Nd)} {q : Value × Nd} (h : NdI w root x wr gl cap (P0 ++ [q])) : wr.cell? ⟨gl, P0.length, none⟩ = some q.1 ∧ gl < wr.heap.size ∧ P0.length + 1 ≤ cap ∧ cap ≤ 9223372036854775807 ∧ wr.ownsRow w.heap.size 36 1 (.slice (some ⟨gl, 0, none⟩) P0.length cap) P0.length (P0.map Prod.fst) := by
  have hr := h.row
  rw [List.length_append] at hr
  rcases hr.2 with ⟨e, _⟩ | ⟨g, cap', cur, e, hb, hg, hle, hcap, hsz, ht⟩
  · cases e
  · injection e with e1 _ e2
    cases e1
    cases e2
    simp only [List.length_cons, List.length_nil] at hle ht hr
    refine ⟨?_, h_lt hg, hle, hcap, ?_⟩
    · have h1 : ((P0 ++ [q]).map Prod.fst)[P0.length]? = some q.1 := by simp
      rw [← ht, List.getElem?_take, if_pos (by omega)] at h1
      exact h_cell hg _ (by simpa using h1)
    · refine ⟨by simp, .inr ⟨gl, cap, cur, rfl, hb, hg, by omega, hcap, hsz, ?_⟩⟩
      have h2 := congrArg (List.take P0.length) ht
      rw [List.take_take, Nat.min_eq_left (by omega), List.map_append, List.take_left' (by simp)] at h2
      rw [Nat.mul_one]
      exact h2
theorem ck_drew {gl nb : Nat} {L : List (Value × Nd)} {w w' : World} {e : Ending} (h : CkO gl nb L w.drew e w') : CkO gl nb L w e w' := by
  obtain ⟨v, L', h1, h2, h3, h4, h5, h6, h7⟩ := h
  exact ⟨v, L', h1, h2, h3, h4, h5, fun v z hz => h6 v z (hz.keep (QKeep.of (Below.drew (Below.refl _ _))) (.inl rfl)), (Bar.of ((Below.refl _ w).drew)).trans h7⟩
theorem ck_row {w : World} {base : Nat} {v : Value} {n : Nat} {vs : List Value} (h : w.ownsRow base 36 1 v n vs) (hn : n ≠ 0) : ∃ g c, v = .slice (some ⟨g, 0, none⟩) n c ∧ (∀ (j : Nat) (u : Value), vs[j]? = some u → w.cell? ((⟨g, 0, none⟩ : Addr).add j) = some u) ∧ g < w.heap.size := by
  have hl := h.1
  rcases h.2 with ⟨_, h0⟩ | ⟨g, cap, cur, rfl, hb, hg, hle, hcap, hsz, ht⟩
  · exact absurd h0 hn
  · refine ⟨g, cap, rfl, fun j u hu => ?_, h_lt hg⟩
    have hj := (List.getElem?_eq_some_iff.1 hu).1
    rw [← ht, List.getElem?_take, if_pos (by omega)] at hu
    rw [Addr.add_lit, Nat.zero_add]
    exact h_cell hg j (by simpa using hu)
theorem ck_one {gl : Nat} {w : World} {B : Nat} {L : List (Value × Nd)} (h : ∀ q ∈ L, NodeQ gl w q.1 q.2 ∧ ∃ b, q.1 = ptr b ∧ B ≤ b) : ∀ u ∈ L.map Prod.fst, u.oneCell' = true := by
  intro u hu
  obtain ⟨q, hq, rfl⟩ := List.mem_map.1 hu
  obtain ⟨_, b, e, _⟩ := h q hq
  rw [e]
  rfl
set_option maxHeartbeats 4000000 in
set_option maxRecDepth 100000 in
theorem node_c {w : World} {v : Value} {x : Nd} (h : ReP w v x) (hz : x.size ≤ 30000) :
    Calls Tryz.prog 16 #[v] w fun e w' => ∃ u, e = .returned u ∧ NodeP w' u x ∧ Below w.heap.size w w' := by
  obtain ⟨i0, hi, hz0, hz1, hz2⟩ := p_info info_pn
  obtain ⟨rb, v0, rfl, hrb, hn⟩ := h
  have c0 : w.cell? ⟨rb, 0, none⟩ = some v0 := h_cell hrb 0 rfl
  obtain ⟨k, p, m, n, l⟩ := x
  have hq := NodeP.q (gl := w.heap.size + 1) (Nat.le_succ _) hn
  obtain ⟨nb, kv, rfl, hB, hR⟩ := nodeQ_iff.1 hq
  have hsz := ndC_size k p m n kv
  have hone := ndC_one k p m n hR.shape
  obtain ⟨cs, hcs⟩ : ∃ cs, ndC k p m n kv = cs := ⟨_, rfl⟩
  rw [hcs] at hsz hone
  have hB1 : w.heap[nb]? = some (.cells cs 64) := by rw [← hcs]; exact hB
  have hst := run_storeCells_new (P := Tryz.prog) w 64 Tryz.zeroCells64 cs (by rw [hsz]; exact info260) (by rw [zeroC_size, hsz]) hone
  have hB2 : Below w.heap.size w ((w.alloc (.cells cs 64)).alloc (.cells #[ptr w.heap.size] 36)) := ((Below.refl _ w).alloc (Nat.le_refl _) _).alloc (by simp) _
  have HI0 : Hid (NdI w w.heap.size ⟨k, p, m, n, l⟩ ((w.alloc (.cells cs 64)).alloc (.cells #[ptr w.heap.size] 36)) (w.heap.size + 1) 1 [(ptr w.heap.size, ⟨k, p, m, n, l⟩)]) := by
    have h1 : NodeQ (w.heap.size + 1) ((w.alloc (.cells cs 64)).alloc (.cells #[ptr w.heap.size] 36)) (ptr w.heap.size) ⟨k, p, m, n, l⟩ :=
      NodeQ.twin (b := nb) ((hB2.block _ (h_lt hB1)).trans hB1) (al_old2 _ _ _) (hq.keep (QKeep.of hB2) (.inl rfl))
    refine ⟨h1, ⟨rfl, .inr ⟨w.heap.size + 1, 1, _, rfl, Nat.le_succ _, al_new2 _ _ _, Nat.le_refl _, by decide, rfl, rfl⟩⟩, fun q hq => ?_, hB2⟩
    rcases List.mem_singleton.1 hq with rfl
    exact ⟨h1, _, rfl, Nat.le_refl _⟩
  have HZ : Hid (sumS [(ptr w.heap.size, ⟨k, p, m, n, l⟩)] ≤ 30000) := by show _ ≤ _; simp only [sumS]; omega
  clear hcs hB hn hq hR hB2 hz
  go_enter Tryz.func16, Tryz.ntmps16
  go_wp2_with fail
  refine wp_load_arr 64 (.tmp 10) rfl nb cs rfl 64 hB1 Tryz.underlying64 rfl (by rw [hsz]; exact info260) ?_
  go_wp2_with fail
  go_loopg [4, 5] 30000 (fun gk v4 _ wr => ∃ (gl cap : Nat) (P : List (Value × Nd)), v4 = .slice (some ⟨gl, 0, none⟩) P.length cap ∧ P.length ≤ 30000 ∧ Hid (NdI w w.heap.size ⟨k, p, m, n, l⟩ wr gl cap P ∧ sumS P ≤ gk ∧ gk ≤ 30000))
  case atStart => exact ⟨_, _, [(ptr w.heap.size, ⟨k, p, m, n, l⟩)], rfl, by simp, (show _ ∧ _ from ⟨HI0.out, HZ.out, Nat.le_refl _⟩)⟩
  case round =>
    obtain ⟨gl, cap, P, rfl, hP, HI⟩ := hrel
    clear HI0
    rcases List.eq_nil_or_concat P with rfl | ⟨P0, q, e⟩
    · have HF : Hid (NodeP wr (ptr w.heap.size) ⟨k, p, m, n, l⟩ ∧ Below w.heap.size w wr) := ⟨HI.out.1.root.p, HI.out.1.bel⟩
      clear HI
      go_wp2_with fail
      go_ret
      exact ⟨_, rfl, HF.out⟩
    · rw [List.concat_eq_append] at e
      subst e
      obtain ⟨c1, hgl, hle, hcap, hrow⟩ := HI.out.1.open
      have hmem := HI.out.1.pend q (by simp)
      obtain ⟨hNq, b, e, hbw⟩ := hmem
      obtain ⟨qv, k1, p1, m1, n1, l1⟩ := q
      have e : qv = ptr b := e
      subst e
      obtain ⟨b', a, kc, L, e, hBq, hkc1, hkc2, rfl, hkq⟩ := hNq.open
      have e : b' = b := by cases e; rfl
      subst e
      have HI1 := Lib.hid HI.out.1
      have hsum := HI.out.2
      rw [sumS_app, sumS, sumS] at hsum
      have hsl := sizes_le k1 p1 m1 n1 (L.map Prod.snd)
      rw [sumS_sizes] at hsl
      have hLl := sumS_len L
      have hsum : sumS P0 + (sumS L + 1) ≤ gk ∧ gk ≤ 30000 := by simp only at hsum; omega
      rw [List.length_append] at *
      simp only [List.length_cons, List.length_nil, Nat.zero_add] at *
      obtain ⟨gk, rfl⟩ : ∃ k, gk = k + 1 := ⟨gk - 1, by omega⟩
      have hck : ∀ u, u = wr.drew → Calls Tryz.prog 26 #[ptr b'] u (CkO gl b' L wr) := fun u hu => by subst hu; exact (copyKids_c (w := wr.drew) (gl := gl) hgl hBq (by omega) ⟨hkc1, hkc2⟩ fun i q hq => ⟨(hkq i q hq).1.keep (QKeep.of (Below.drew (Below.refl _ _))) (.inl rfl), (hkq i q hq).2⟩).mono fun e w1 h => ck_drew h
      have ha0 := fun ty (u : World) => append_none ty (some ⟨gl, 0, none⟩) P0.length cap (by omega) u
      have hw0 : IntKind.i64.wrap (P0.length : Int) = (P0.length : Int) := IntWalk.i64_in _ (by omega)
      have hw1 : (P0.length : Int) ≤ (cap : Int) := by omega
      have hle0 : P0.length ≤ cap := by omega
      have HR0 := Lib.hid hrow
      have HBq := Lib.hid hBq
      have hP0 : P0.length ≤ 30000 := by omega
      have HPd : Hid (∀ q ∈ P0, NodeQ gl wr q.1 q.2 ∧ ∃ b, q.1 = ptr b ∧ w.heap.size ≤ b) := fun q hq => HI1.out.pend q (by simp [hq])
      have HRt := Lib.hid (And.intro HI1.out.root HI1.out.bel)
      have hwg : w.heap.size ≤ wr.heap.size := HI1.out.bel.size
      clear hkq HI HI1 hrow hNq hBq
      by_cases hL0 : L = []
      · subst hL0
        go_upto_region 5 with fail
        go_region_law (first
          | (go_simp; go_at_call 26; refine (hck _ rfl).mono ?_; rintro e w1 ⟨v1, L1, rfl, hs1, hr1, hn1, hq1, hk1, hb1⟩; have hl1 : L1 = [] := List.map_eq_nil_iff.1 hs1; have hv1 := hn1 hl1; subst hv1; subst hl1; have H1 := Lib.hid (And.intro hk1 hb1); clear hk1 hb1 hr1 hq1 hn1 hs1))
        all_goals
          go_wp2_with fail
          go_roundg gk
          case measure => omega
          case rel =>
          obtain ⟨hk1, hb1⟩ := H1.out
          have hbel : Below w.heap.size wr w1 := (hb1.below (Nat.le_of_lt (h_lt HBq.out))).mono hbw
          refine ⟨gl, cap, P0, rfl, hP0, (show _ ∧ _ from ⟨⟨hk1 _ _ HRt.out.1, ?_, fun q hq => ⟨hk1 _ _ (HPd.out q hq).1, (HPd.out q hq).2⟩, HRt.out.2.trans hbel⟩, by omega, by omega⟩)⟩
          exact row_keep HR0.out fun g cur hg => hb1.blk2 HBq.out hg (by decide)
      · have hpos := List.length_pos_iff.2 hL0
        go_upto_region 5 with fail
        go_region_law (first
          | (go_simp; go_at_call 26; refine (hck _ rfl).mono ?_; rintro e w1 ⟨v1, L1, rfl, hs1, hr1, hn1, hq1, hk1, hb1⟩; have hl1 : L1.length = L.length := (by have := congrArg List.length hs1; rwa [List.length_map, List.length_map] at this); have hcp := ck_row hr1 (by omega); have HL1 := Lib.hid hl1; clear hl1; obtain ⟨g1, c1, rfl, hnews, hlt1⟩ := hcp; have hR1 : w1.ownsRow w.heap.size 36 1 (.slice (some ⟨gl, 0, none⟩) P0.length cap) P0.length (P0.map Prod.fst) := row_keep HR0.out fun g cur hg => hb1.blk2 HBq.out hg (by decide); have hs1' := hb1.size; have H1 := Lib.hid (And.intro hk1 (And.intro hb1 (And.intro hq1 hs1))); clear hk1 hb1 hr1 hq1 hn1 hs1)
          | (refine step_append_lies _ rfl _ _ 62 rfl w.heap.size 36 i0 (.pointer none) 1 8 Tryz.underlying62 hi hz0 hz1 hz2 rfl (by decide) (.slice (some ⟨gl, 0, none⟩) P0.length cap) P0.length (P0.map Prod.fst) (by simp [Act.eval]) hR1 ⟨g1, 0, none⟩ L1.length c1 (L1.map Prod.fst) (by simp [Act.eval]) (by simp) hnews (ck_one H1.out.2.2.1) (by have := HL1.out; omega) (by have := HL1.out; unfold maxLen; omega) (by have := HL1.out; omega) (by omega) _ rfl ?_; intro g5 cap5 w5 hown5 hgrow5 hat5 hlt5; have H5 := Lib.hid (And.intro hown5 (And.intro hgrow5 hat5)); clear hown5 hgrow5 hat5 hlt5))
        all_goals
          go_wp2_with fail
          go_roundg gk
          case measure => omega
          case rel =>
          obtain ⟨hk1, hb1, hq1, hs1⟩ := H1.out
          have hl1 := HL1.out
          obtain ⟨hown5, hgrow5, hat5⟩ := H5.out
          have hbel : Below w.heap.size wr w1 := (hb1.below (Nat.le_of_lt (h_lt HBq.out))).mono hbw
          have hbel1 := HRt.out.2.trans hbel
          have hbel5 := hbel1.grown hgrow5 (by omega) (fun k hk => (hR1.lt k hk).1)
          have hkeep : QKeep gl w1 w5 := fun c cs' T hT hc => (hgrow5.block c (h_lt hc) (fun e => by
            have e : c = gl := by simpa [Value.ownBlock] using e
            rcases hT with rfl | ⟨_, hne⟩
            · rcases hR1.2 with ⟨e2, _⟩ | ⟨g', c', cur', e2, _, hg', _⟩
              · cases e2
              · cases e2
                rw [e, hg'] at hc
                injection hc with hc
                injection hc with _ h6 _
                exact absurd h6 (by decide)
            · exact hne e)).trans hc
          have hg5 : g5 = gl ∨ w1.heap.size ≤ g5 := by
            rcases hat5 with h | h
            · left; simpa [Value.ownBlock] using h.symm
            · right; omega
          have hsum5 : sumS L1 = sumS L := by
            have h1 := sumS_sizes L1
            have h2 := sumS_sizes L
            rw [hs1] at h1
            omega
          refine ⟨g5, cap5, P0 ++ L1, by rw [List.length_append], ?_, (show _ ∧ _ from ⟨⟨(hk1 _ _ HRt.out.1).keep hkeep hg5, ?_, fun q hq => ?_, hbel5⟩, by rw [sumS_app]; omega, by omega⟩)⟩
          · rw [List.length_append]
            have h1 := sumS_len P0
            have h2 := sumS_len L
            omega
          · rw [List.length_append, List.map_append]
            exact hown5
          · rcases List.mem_append.1 hq with hq | hq
            · exact ⟨(hk1 _ _ (HPd.out q hq).1).keep hkeep hg5, (HPd.out q hq).2⟩
            · obtain ⟨h1, b2, h2, h3⟩ := hq1 q hq
              exact ⟨h1.keep hkeep hg5, b2, h2, by omega⟩
end Go.Proofs.YtlekfdkahlobiaaGreat.Re
