/- The contracts of the program's Lines and Fields. -/
import Derived.Shelf.RegionOpen
import Derived.Test.YtcpclpckjheadaaDoorPieces
import Derived.Test.YtcpclpckjheadaaDoorShelf
namespace Go.Proofs.YtcpclpckjheadaaDoor
open Go.RowKit Go.Shelf

attribute [local go_sem] Oper.semAt_some

theorem info22 : (Tryd.prog.info? 22).map (fun i => (i.zero, i.size, i.bytes)) = some (some (.slice none 0 0), 1, 24) := by kernel_rfl

def u8s (l : List UInt8) : List Value := l.map fun x => Value.int .u8 (x.toNat : Int)

/-- Slices of bytes, each in memory of its own from n₀ on, that hold these bytes. -/
def RowsAt (n₀ : Nat) (W : World) (vs : List Value) (ls : List (List UInt8)) : Prop :=
  vs.length = ls.length ∧ ∀ i (hi : i < ls.length), ∃ v, vs[i]? = some v ∧ W.ownsRow n₀ 5 1 v ls[i].length (u8s ls[i])

/-- What of the pieces is told. -/
def kept (ls : List (List UInt8 × Bool)) : List (List UInt8) := (ls.filter fun p => p.2 || decide (0 < p.1.length)).map (·.1)

/-- What bytes.Clone does within a fence. -/
def CloneIn (F : Fence) : Prop := ∀ (m n₀ : Nat) (v : Value) (xs : List UInt8) (W : World), BytesAt n₀ W v xs →
  CallsIn F m Tryd.prog 25 #[v] W fun e w' => ∃ v', e = .returned v' ∧ w'.ownsRow W.heap.size 5 1 v' xs.length (u8s xs) ∧ Below W.heap.size W w'

theorem rows_own (n₀ : Nat) : Own (fun (s : List Value × List (List UInt8)) W => RowsAt n₀ W s.1 s.2) := by
  rintro s X Y row ⟨h1, h2⟩ hg hrow
  refine ⟨h1, fun i hi => ?_⟩
  obtain ⟨v, hv, hr⟩ := h2 i hi
  refine ⟨v, hv, hr.kept hg ?_⟩
  rcases hr.2 with ⟨rfl, _⟩ | ⟨g, cap, cur, rfl, _, hgb, _⟩
  · exact .inl rfl
  · refine .inr fun e' => ?_
    obtain ⟨o, ho, hc⟩ := hrow g (by simpa [Value.ownBlock] using e'.symm)
    rw [hgb] at ho; cases ho; cases hc

/-- Between two rounds: the box holds a slice that owns the slices of what has come. -/
def LinesI {n₀ : Nat} {w₁ : World} (n₁ : Nat) (pre : List (Piece n₀ w₁)) (W : World) : Prop :=
  (∃ v vs, Boxed W n₀ 25 v ∧ W.ownsRow n₁ 22 1 v (kept (pre.map Piece.told)).length vs ∧ RowsAt n₁ W vs (kept (pre.map Piece.told))) ∧ Below n₀ w₁ W

theorem linesI_own {n₀ : Nat} {w₁ : World} (n₁ B : Nat) (hn : n₀ ≤ B) (hw : n₀ ≤ w₁.heap.size) : OwnFrom B (LinesI (n₀ := n₀) (w₁ := w₁) n₁) := by
  rintro s X Y row ⟨⟨v, vs, hv, hr, hrs⟩, hB⟩ hg hrow
  have hrow' : ∀ r, row = some r → ∃ o : Obj, X.heap[r]? = some o ∧ o.isCells = false := fun r e => (hrow r e).2
  refine ⟨⟨v, vs, hv.kept hg (fun e' => ?_), hr.kept hg ?_, rows_own n₁ (vs, kept (s.map Piece.told)) X Y row hrs hg hrow'⟩, hB.grown hg (Nat.le_trans hw hB.size) (fun k e => Nat.le_trans hn (hrow k e).1)⟩
  · obtain ⟨o, ho, hc⟩ := hrow' n₀ e'.symm
    rw [show X.heap[n₀]? = _ from hv] at ho; cases ho; cases hc
  · rcases hr.2 with ⟨rfl, _⟩ | ⟨g, cap, cur, rfl, _, hgb, _⟩
    · exact .inl rfl
    · refine .inr fun e' => ?_
      obtain ⟨o, ho, hc⟩ := hrow' g (by simpa [Value.ownBlock] using e'.symm)
      rw [hgb] at ho; cases ho; cases hc

theorem keeps_putObj {n₀ B n : Nat} (h : B + 1 < n) (h0 : n₀ ≤ n) : ∀ (W : World) (l : Nat) (o o' : Obj), n ≤ l → W.heap[l]? = some o → o.isCells = false → o.isWalk = false → Keeps n₀ B W (W.putObj l o') :=
  fun W l o o' hl ho hc hw => ⟨(Below.refl n₀ W).grown (grownBy_putObj' W l o') (by have := (Array.getElem?_eq_some_iff.1 ho).1; omega) (fun k e => by cases e; omega), World.putObj_heap_other (by omega), World.putObj_heap_other (by omega)⟩

theorem grown_below {w w' : World} (h : Below w.heap.size w w') (row : Option Nat) : w.grownBy w' row := ⟨h.os, h.tape, h.output, h.size, fun k hk _ => h.block k hk⟩

theorem own_base {W : World} {base base' e k : Nat} {v : Value} {xs : List Value} (h : W.ownsRow base e 1 v k xs) (hb : base' ≤ base) : W.ownsRow base' e 1 v k xs := by
  refine ⟨h.1, ?_⟩
  rcases h.2 with hn | ⟨g, cap, cur, hv, hbg, rest⟩
  · exact .inl hn
  · exact .inr ⟨g, cap, cur, hv, Nat.le_trans hb hbg, rest⟩
theorem own_slice {W : World} {base e k : Nat} {v : Value} {xs : List Value} (h : W.ownsRow base e 1 v k xs) : ∃ a c, v = .slice a k c := by
  rcases h.2 with ⟨rfl, rfl⟩ | ⟨g, cap, cur, rfl, _⟩
  · exact ⟨none, 0, rfl⟩
  · exact ⟨_, cap, rfl⟩

/-- An owned row of another element type than the block that turns. -/
theorem own_other {W : World} {base base' e e' k k' : Nat} {v v' : Value} {xs xs' : List Value} (h : W.ownsRow base e 1 v k xs) (h' : W.ownsRow base' e' 1 v' k' xs') (he : e ≠ e') : v.ownBlock = none ∨ v.ownBlock ≠ v'.ownBlock := by
  rcases h.2 with ⟨rfl, _⟩ | ⟨g, cap, cur, rfl, _, hg, _⟩
  · exact .inl rfl
  · refine .inr fun e1 => ?_
    rcases h'.2 with ⟨rfl, _⟩ | ⟨g', cap', cur', rfl, _, hg', _⟩
    · simp [Value.ownBlock] at e1
    · obtain rfl : g = g' := by simpa [Value.ownBlock] using e1
      rw [hg] at hg'; cases hg'; exact he rfl

theorem own_box {W : World} {base e k b t : Nat} {v u : Value} {xs : List Value} (h : W.ownsRow base e 1 v k xs) (hb : Boxed W b t u) (he : t ≠ e) : v.ownBlock = none ∨ v.ownBlock ≠ some b :=
  .inr (hb.not_row he h).symm

/-- One piece more is collected: what becomes of the box, the row and the pieces' own rows. -/
theorem collect_step {n₀ n₁ k : Nat} {W w2 w3 : World} {v v2 v3 : Value} {vs : List Value} {ls : List (List UInt8)} {xs : List UInt8} (hn : n₀ + 2 < n₁) (hnW : n₁ ≤ W.heap.size)
    (hv : Boxed W n₀ 25 v) (hrow : W.ownsRow n₁ 22 1 v k vs) (hrows : RowsAt n₁ W vs ls)
    (hown2 : w2.ownsRow W.heap.size 5 1 v2 xs.length (u8s xs)) (hb2 : Below W.heap.size W w2)
    (hown3 : w3.ownsRow n₁ 22 1 v3 (k + 1) (vs ++ [v2])) (hgrow3 : (w2.alloc (.cells #[v2] 22)).grownBy w3 v.ownBlock) :
    Boxed w3 n₀ 25 v ∧ Boxed (w3.setCell ⟨n₀, 0, none⟩ v3) n₀ 25 v3 ∧ (w3.setCell ⟨n₀, 0, none⟩ v3).ownsRow n₁ 22 1 v3 (k + 1) (vs ++ [v2]) ∧ RowsAt n₁ (w3.setCell ⟨n₀, 0, none⟩ v3) (vs ++ [v2]) (ls ++ [xs]) ∧ KeepsOthers W (w3.setCell ⟨n₀, 0, none⟩ v3) ∧ Keeps n₀ (n₀ + 1) W (w3.setCell ⟨n₀, 0, none⟩ v3) := by
  have g2 := grown_below hb2 none
  have ga : w2.grownBy (w2.alloc (.cells #[v2] 22)) none := World.grownBy_alloc w2 _ none
  have hv2 : Boxed (w2.alloc (.cells #[v2] 22)) n₀ 25 v := (hv.kept g2 (by simp)).alloc _
  have hrow2 : (w2.alloc (.cells #[v2] 22)).ownsRow n₁ 22 1 v k vs := (hrow.kept g2 (by cases v.ownBlock <;> simp)).alloc _
  have hv3 : Boxed w3 n₀ 25 v := hv2.kept hgrow3 (hv2.not_row (by decide) hrow2)
  have gs := grownBy_setCell' w3 n₀ v3
  have hgb : ∀ g, v.ownBlock = some g → n₁ ≤ g := fun g e => by
    rcases hrow.2 with ⟨rfl, _⟩ | ⟨g', cap, cur, rfl, hb, _⟩
    · simp [Value.ownBlock] at e
    · obtain rfl : g' = g := by simpa [Value.ownBlock] using e
      exact hb
  refine ⟨hv3, hv3.set v3, hown3.kept gs (own_box hown3 hv3 (by decide)), ⟨by rw [List.length_append, List.length_append, hrows.1]; rfl, fun i hi => ?_⟩, ?_, ?_, ?_, ?_⟩
  · have hl := hrows.1
    by_cases h : i < ls.length
    · obtain ⟨u, hu, hr⟩ := hrows.2 i h
      have r2 : (w2.alloc (.cells #[v2] 22)).ownsRow n₁ 5 1 u ls[i].length (u8s ls[i]) := (hr.kept g2 (by cases u.ownBlock <;> simp)).alloc _
      have r3 := r2.kept hgrow3 (own_other r2 hrow2 (by decide))
      refine ⟨u, by rw [List.getElem?_append_left (by omega)]; exact hu, ?_⟩
      rw [List.getElem_append_left h]
      exact r3.kept gs (own_box r3 hv3 (by decide))
    · have hi' : i = ls.length := by simp at hi; omega
      subst hi'
      have r0 : w2.ownsRow n₁ 5 1 v2 xs.length (u8s xs) := own_base hown2 hnW
      have r2 : (w2.alloc (.cells #[v2] 22)).ownsRow n₁ 5 1 v2 xs.length (u8s xs) := r0.alloc _
      have r3 := r2.kept hgrow3 (own_other r2 hrow2 (by decide))
      refine ⟨v2, by rw [List.getElem?_append_right (by omega), hl]; simp, ?_⟩
      rw [List.getElem_append_right (Nat.le_refl _)]
      simp only [Nat.sub_self, List.getElem_cons_zero]
      exact r3.kept gs (own_box r3 hv3 (by decide))
  · refine (((⟨hb2.size, fun j o hj _ => (hb2.block j (Array.getElem?_eq_some_iff.1 hj).1).trans hj⟩ : KeepsOthers W w2).trans (KeepsOthers.alloc w2 _)).trans (KeepsOthers.of_grownBy hgrow3 fun j o ej hj => ?_)).trans (KeepsOthers.setCell _ _ _)
    rcases hrow2.2 with ⟨rfl, _⟩ | ⟨g, cap, cur, rfl, _, hgb, _⟩
    · simp [Value.ownBlock] at ej
    · obtain rfl : g = j := by simpa [Value.ownBlock] using ej
      rw [hgb] at hj; cases hj; rfl
  · have h0 := hv.lt
    have hb : Below n₀ W w3 := ((hb2.mono (by omega)).alloc (by have := hb2.size; omega) _).grown hgrow3 (by have := hb2.size; simp; omega) (fun j ej => by have := hgb j ej; omega)
    exact hb.setCell (p := ⟨n₀, 0, none⟩) (Nat.le_refl _) v3
  · have hs := hb2.size
    rw [Below.heap_setCell _ _ _ _ (by simp; try omega), hgrow3.block _ (by simp; omega) (fun e => by have := hgb _ e.symm; omega), Below.heap_alloc _ _ _ (by omega), hb2.block _ (by omega)]
  · have hs := hb2.size
    rw [Below.heap_setCell _ _ _ _ (by simp; try omega), hgrow3.block _ (by simp; omega) (fun e => by have := hgb _ e.symm; omega), Below.heap_alloc _ _ _ (by omega), hb2.block _ (by omega)]

/-- append onto a row of the call's own, as one step of a region that draws its order, within a fence. -/
theorem step_append_in {F : Fence} {n : Nat} {P : Program} {ops : Array Oper} {o : Oper} {a : Act} {w : World} {K : Act → World → Prop} {Q : Exit → Act → World → Prop} {E : Prop}
    (hg : o.guard = none) (s x : Operand) (t : TypeId) (hop : o.op = Op.call { callee := Callee.builtin Builtin.append, args := #[s, x], argTypes := #[t, t] })
    (base : Nat) (e : TypeId) (i : TypeInfo) (z : Value) (size bytes : Nat) (h1 : P.underlying t = some (.slice e)) (h2 : P.info? e = some i) (h3 : i.zero = some z) (h4 : i.size = size) (h5 : i.bytes = bytes) (h6 : z.cells.size = size) (h7 : 0 < size)
    (v : Value) (k : Nat) (xs : List Value) (hs : a.eval s = v) (hown : w.ownsRow base e size v k xs) (ad : Addr) (m c : Nat) (news : List Value) (hx : a.eval x = .slice (some ad) m c) (hn : news.length = m * size)
    (hc : ∀ j u, news[j]? = some u → w.cell? (ad.add j) = some u) (h1c : ∀ u ∈ news, u.oneCell' = true) (b1 : k + m ≤ maxLen) (b2 : (k + m) * bytes ≤ 140737488355328) (b3 : base ≤ w.heap.size)
    (hK : ∀ v' w', w'.ownsRow base e size v' (k + m) (xs ++ news) → w.grownBy w' v.ownBlock → K (a.put o.dst v') w') :
    if Region.wanted o (yielded ops a.tmps) = true then Oper.wpIn F n P o a w K Q else E := by
  have hw : Region.wanted o (yielded ops a.tmps) = true := by simp [Region.wanted, hg]
  rw [if_pos hw]
  obtain ⟨v', w', hrun, r1, r2, r3⟩ := run_append_own (P := P) w base t o.type e i z size bytes h1 h2 h3 h4 h5 h6 h7 v k xs hown ad m c news hn hc h1c b1 b2 b3
  unfold Oper.wpIn
  refine ⟨?_, ?_⟩
  · simp [Oper.about, hop, resolve, Target.leads, Sem.run_pure]
  · rw [Oper.semAt_plain F _ _ (by rw [hop]; intro c hc'; cases hc')]
    simp [execOp, hop, resolve, invoke, builtin, hs, hx, hrun, Result.andThen]
    exact hK _ _ r1 r2

theorem kept_length {n₀ : Nat} {w₁ : World} (pre : List (Piece n₀ w₁)) : (kept (pre.map Piece.told)).length ≤ pre.length := by
  unfold kept
  rw [List.length_map]
  exact Nat.le_trans (List.length_filter_le _ _) (by simp)

set_option maxRecDepth 100000 in
set_option maxHeartbeats 4000000 in
theorem Lines_in (F : Fence) (n : Nat) (h9 : F.fn 9) (h23 : F.fn 23) (h31 : F.fn 31) (h24 : F.fn 24) (hcl : CloneIn F) (h25 : F.fn 25) (hro : F.round = none) (hn : 6 ≤ n) (a : Option Addr) (len cap : Nat) (bs : List UInt8) (hlen : bs.length ≤ 1048576) (w : World) (hL : BytesAt w.heap.size w (.slice a len cap) bs) :
    CallsIn F n Tryd.prog 9 #[.slice a len cap] w fun e W' => ∃ v vs, e = .returned v ∧ W'.ownsRow (w.heap.size + 3) 22 1 v (kept (pcs feedB bs)).length vs ∧ RowsAt (w.heap.size + 3) W' vs (kept (pcs feedB bs)) ∧ Below w.heap.size w W' := by
  obtain ⟨i0, hi, hz0, hz1, hz2⟩ := info_parts info22
  have mixed : Tryd.prog.follows .mixedOrders = true := by kernel_rfl
  have h1 : 1 ≤ n := by omega
  refine callsIn_of_wp_marks Tryd.func9 rfl h9 ?_ hro
  simp only [Tryd.ntmps9, List.size_toArray, List.length_cons, List.length_nil, Nat.reduceAdd, Nat.reduceSub, Array.replicate_succ, Array.replicate_zero, List.push_toArray, List.append_toArray, List.nil_append, List.cons_append]
  gi_wp2_with (gi_at_call 23; refine (pieces_in F (n - 1) h23 hro _ _ _ _ _).mono ?_; rintro e w' ⟨rfl, rfl⟩)
  have bO := Boxed.new w 25 (.slice none 0 0)
  have bV := Boxed.new (w.alloc (.cells #[.slice none 0 0] 25)) 22 (.slice a len cap)
  rw [World.size_alloc] at bV
  have bC := Boxed.new ((w.alloc (.cells #[.slice none 0 0] 25)).alloc (.cells #[.slice a len cap] 22)) 40 (.func (.func 24) #[] #[])
  simp only [World.size_alloc] at bC
  have hB0 : Below w.heap.size w (((w.alloc (.cells #[.slice none 0 0] 25)).alloc (.cells #[.slice a len cap] 22)).alloc (.cells #[.func (.func 24) #[] #[]] 40)) := (((Below.refl _ w).alloc (Nat.le_refl _) _).alloc (by simp) _).alloc (by simp; omega) _
  have bO' := (bO.alloc (.cells #[.slice a len cap] 22)).alloc (.cells #[.func (.func 24) #[] #[]] 40)
  have bV' := bV.alloc (.cells #[.func (.func 24) #[] #[]] 40)
  obtain ⟨w1, hw1⟩ : ∃ w1, w1 = ((w.alloc (.cells #[.slice none 0 0] 25)).alloc (.cells #[.slice a len cap] 22)).alloc (.cells #[.func (.func 24) #[] #[]] 40) := ⟨_, rfl⟩
  have hs1 : w1.heap.size = w.heap.size + 3 := by rw [hw1]; simp
  rw [← hw1] at hB0 bO' bV' bC ⊢
  have hL1 : BytesAt w.heap.size w1 (.slice a len cap) bs := hL.below hB0
  clear hw1
  refine wpIn_rangeFunc_ownG hro h1 (gf := 31) (lb := #[.pointer (some ⟨w.heap.size + 1, 0, none⟩), .pointer (some ⟨w.heap.size + 1 + 1, 0, none⟩)]) rfl h31 (enters_of Tryd.func31 (by kernel_rfl) rfl)
    (feed_stops F (n - 1) h31 h24 hro (by omega) (w.heap.size + 1) (w.heap.size + 1 + 1) w.heap.size (.slice a len cap) bs w1 (by omega) rfl (by omega) bV'.cell bC.cell hL1) Keeps.trans (keeps_putObj (by omega) (by omega)) (Below.refl _ _) (fun _ => rfl)
    (LinesI (w.heap.size + 3))
    (fun _ _ _ => False)
    (linesI_own (w.heap.size + 3) _ (by omega) (by omega))
    (fun _ _ _ _ _ hs _ _ => hs)
    ⟨⟨_, [], bO', World.ownsRow_nil _ _ _ _, rfl, fun i hi => by simp [kept] at hi⟩, Below.refl _ _⟩
    (fun x => { tmps := #[.slice a len cap, undef, .slice none 0 0, .pointer (some ⟨w.heap.size, 0, none⟩), x.v, .bool x.ended, .slice a len cap, .func (.func 31) #[] #[.pointer (some ⟨w.heap.size + 1, 0, none⟩), .pointer (some ⟨w.heap.size + 1 + 1, 0, none⟩)], x.v, .bool x.ended, undef, undef, undef, undef, undef, undef, undef, undef, undef, undef, undef, undef], defers := [] }) ?assign ?body ?done ?stop
  case assign =>
    intro l x W K hK
    simp only [Piece.encs]
    gi_wp2
    exact hK
  case body =>
    rintro l pre x W ⟨⟨v, vs, hv, hrow, hrows⟩, hB⟩ hlt
    obtain ⟨xe, hxe⟩ : ∃ xe, xe = x.ended := ⟨_, rfl⟩
    obtain ⟨xs, hxs⟩ : ∃ xs, xs = x.bytes := ⟨_, rfl⟩
    obtain ⟨xa, xcap, hxv⟩ : ∃ xa xcap, x.v = .slice xa xs.length xcap := by
      rcases x.ok with ⟨h1, h2⟩ | ⟨b, off, cap, h1, h2⟩
      · exact ⟨none, 0, by rw [hxs, h2]; exact h1⟩
      · exact ⟨_, _, by rw [hxs]; exact h1⟩
    have hc := hv.cell
    have hxB : BytesAt w.heap.size W (.slice xa xs.length xcap) xs := by rw [← hxv, hxs]; exact x.ok.below hB
    have hxl : xs.length ≤ 140737488355328 := by rcases hxB with ⟨h1, h2⟩ | ⟨b, off, cap, h1, h2, h3⟩; · rw [h2]; simp
                                                 · exact h2.2.1
    have HT : Hid (x.told = (xs, xe)) := by show x.told = (xs, xe); rw [hxs, hxe]; rfl
    rw [hxv, ← hxe]
    clear hxv hxe hxs
    by_cases hgo : xe = true ∨ 0 < xs.length
    · have HK : Hid (kept ((pre ++ [x]).map Piece.told) = kept (pre.map Piece.told) ++ [xs]) := by
        show kept _ = kept _ ++ _
        rw [List.map_append, List.map_cons, List.map_nil, HT.out]
        rcases hgo with h | h <;> simp [kept, h]
      have hkl : (kept (pre.map Piece.told)).length ≤ pre.length := kept_length pre
      have hWs : w.heap.size + 3 ≤ W.heap.size := by have := hB.size; omega
      have hgo' : (xe = true) ∨ (xe = false ∧ 0 < xs.length) := by cases xe <;> simp_all
      clear hgo bO bV bO' bV' bC hL hL1
      rcases hgo' with rfl | ⟨rfl, hpos⟩
      · gi_wp2
        refine wpIn_region_any (by assumption) ?_
        change wpAnyIn _ _ _ _ _ _ _ _ _ (World.drew _)
        refine wpAnyIn_ready (rs := [0, 1]) (by kernel_rfl) (by simp) ?_
        refine AllReadyIn.cons rfl (fun K hK => ?_) (AllReadyIn.cons rfl (fun K hK => ?_) AllReadyIn.nil)
        · go_simp
          refine hK _ _ ?_
          clear hK K
          refine wpAnyIn_ready (rs := [1]) (by kernel_rfl) (by simp) ?_
          refine AllReadyIn.cons rfl (fun K hK => ?_) AllReadyIn.nil
          go_simp
          refine hK _ _ ?_
          clear hK K
          refine wpAnyIn_ready (rs := [2]) (by kernel_rfl) (by simp) ?_
          refine AllReadyIn.cons rfl (fun K hK => ?_) AllReadyIn.nil
          go_simp
          refine ⟨fun _ => by omega, ?_⟩
          refine (CallsIn.inRound l (hcl _ _ _ _ _ (hxB.below ((Below.refl _ W).drew)))).mono ?_
          rintro e w2 ⟨v2, rfl, hown2, hbel2⟩
          obtain ⟨a2, c2, rfl⟩ := own_slice hown2
          have hbel : Below W.heap.size W w2 := ((Below.refl _ W).drew).trans hbel2
          have hc2 : w2.cell? ⟨w.heap.size, 0, none⟩ = some v := (hbel.cell (p := ⟨w.heap.size, 0, none⟩) hv.lt).trans hc
          have hc3 : ∀ o, (w2.alloc o).cell? ⟨w.heap.size, 0, none⟩ = some v := fun o => (World.cell?_alloc_past _ _ _ (show w.heap.size < w2.heap.size by have := hbel.size; have := hv.lt; omega)).trans hc2
          refine hK _ _ ?_
          clear hK K
          refine wpAnyIn_ready (rs := [3]) (by kernel_rfl) (by simp) ?_
          refine AllReadyIn.cons rfl (fun K hK => ?_) AllReadyIn.nil
          go_simp
          refine hK _ _ ?_
          clear hK K
          refine wpAnyIn_ready (rs := [4]) (by kernel_rfl) (by simp) ?_
          refine AllReadyIn.cons rfl (fun K hK => ?_) AllReadyIn.nil
          refine step_append_in rfl (.tmp 16) (.tmp 19) 25 rfl (w.heap.size + 3) 22 i0 (.slice none 0 0) 1 24 Tryd.underlying25 hi hz0 hz1 hz2 rfl (by decide) v (kept (pre.map Piece.told)).length vs rfl ((hrow.kept (grown_below hbel none) (by cases v.ownBlock <;> simp)).alloc _) ⟨w2.heap.size, 0, none⟩ 1 1 [.slice a2 xs.length c2] rfl rfl (cell_one_new _ _ _) (by simp [Value.oneCell']) (by unfold maxLen; omega) (by omega) (by have := hbel.size; simp; omega) ?_
          intro v3 w3 hown3 hgrow3
          obtain ⟨g3, c3, rfl⟩ := ownsRow_succ hown3
          obtain ⟨hv3, hv4, hr4, hrs4, hko, hke⟩ := collect_step (by omega) (by omega) hv hrow hrows hown2 hbel hown3 hgrow3
          refine hK _ _ ?_
          clear hK K
          have hc4 := hv3.cell
          have hf4 := hv3.frozen
          refine wpAnyIn_ready (rs := [5]) (by kernel_rfl) (by simp) ?_
          refine AllReadyIn.cons rfl (fun K hK => ?_) AllReadyIn.nil
          go_simp
          refine hK _ _ ?_
          clear hK K
          refine wpAnyIn_done (by kernel_rfl) ?_ _
          exact ⟨hko.from _, hke, ⟨_, _, hv4, by rw [HK.out, List.length_append]; exact hr4, by rw [HK.out]; exact hrs4⟩, hB.trans hke.1⟩
        · go_simp
          refine hK _ _ ?_
          clear hK K
          refine wpAnyIn_ready (rs := [0, 2]) (by kernel_rfl) (by simp) ?_
          refine AllReadyIn.cons rfl (fun K hK => ?_) (AllReadyIn.cons rfl (fun K hK => ?_) AllReadyIn.nil)
          · go_simp
            refine hK _ _ ?_
            clear hK K
            refine wpAnyIn_ready (rs := [2]) (by kernel_rfl) (by simp) ?_
            refine AllReadyIn.cons rfl (fun K hK => ?_) AllReadyIn.nil
            go_simp
            refine ⟨fun _ => by omega, ?_⟩
            refine (CallsIn.inRound l (hcl _ _ _ _ _ (hxB.below ((Below.refl _ W).drew)))).mono ?_
            rintro e w2 ⟨v2, rfl, hown2, hbel2⟩
            obtain ⟨a2, c2, rfl⟩ := own_slice hown2
            have hbel : Below W.heap.size W w2 := ((Below.refl _ W).drew).trans hbel2
            have hc2 : w2.cell? ⟨w.heap.size, 0, none⟩ = some v := (hbel.cell (p := ⟨w.heap.size, 0, none⟩) hv.lt).trans hc
            have hc3 : ∀ o, (w2.alloc o).cell? ⟨w.heap.size, 0, none⟩ = some v := fun o => (World.cell?_alloc_past _ _ _ (show w.heap.size < w2.heap.size by have := hbel.size; have := hv.lt; omega)).trans hc2
            refine hK _ _ ?_
            clear hK K
            refine wpAnyIn_ready (rs := [3]) (by kernel_rfl) (by simp) ?_
            refine AllReadyIn.cons rfl (fun K hK => ?_) AllReadyIn.nil
            go_simp
            refine hK _ _ ?_
            clear hK K
            refine wpAnyIn_ready (rs := [4]) (by kernel_rfl) (by simp) ?_
            refine AllReadyIn.cons rfl (fun K hK => ?_) AllReadyIn.nil
            refine step_append_in rfl (.tmp 16) (.tmp 19) 25 rfl (w.heap.size + 3) 22 i0 (.slice none 0 0) 1 24 Tryd.underlying25 hi hz0 hz1 hz2 rfl (by decide) v (kept (pre.map Piece.told)).length vs rfl ((hrow.kept (grown_below hbel none) (by cases v.ownBlock <;> simp)).alloc _) ⟨w2.heap.size, 0, none⟩ 1 1 [.slice a2 xs.length c2] rfl rfl (cell_one_new _ _ _) (by simp [Value.oneCell']) (by unfold maxLen; omega) (by omega) (by have := hbel.size; simp; omega) ?_
            intro v3 w3 hown3 hgrow3
            obtain ⟨g3, c3, rfl⟩ := ownsRow_succ hown3
            obtain ⟨hv3, hv4, hr4, hrs4, hko, hke⟩ := collect_step (by omega) (by omega) hv hrow hrows hown2 hbel hown3 hgrow3
            refine hK _ _ ?_
            clear hK K
            have hc4 := hv3.cell
            have hf4 := hv3.frozen
            refine wpAnyIn_ready (rs := [5]) (by kernel_rfl) (by simp) ?_
            refine AllReadyIn.cons rfl (fun K hK => ?_) AllReadyIn.nil
            go_simp
            refine hK _ _ ?_
            clear hK K
            refine wpAnyIn_done (by kernel_rfl) ?_ _
            exact ⟨hko.from _, hke, ⟨_, _, hv4, by rw [HK.out, List.length_append]; exact hr4, by rw [HK.out]; exact hrs4⟩, hB.trans hke.1⟩
          · go_simp
            refine ⟨fun _ => by omega, ?_⟩
            refine (CallsIn.inRound l (hcl _ _ _ _ _ (hxB.below ((Below.refl _ W).drew)))).mono ?_
            rintro e w2 ⟨v2, rfl, hown2, hbel2⟩
            obtain ⟨a2, c2, rfl⟩ := own_slice hown2
            have hbel : Below W.heap.size W w2 := ((Below.refl _ W).drew).trans hbel2
            have hc2 : w2.cell? ⟨w.heap.size, 0, none⟩ = some v := (hbel.cell (p := ⟨w.heap.size, 0, none⟩) hv.lt).trans hc
            have hc3 : ∀ o, (w2.alloc o).cell? ⟨w.heap.size, 0, none⟩ = some v := fun o => (World.cell?_alloc_past _ _ _ (show w.heap.size < w2.heap.size by have := hbel.size; have := hv.lt; omega)).trans hc2
            refine hK _ _ ?_
            clear hK K
            refine wpAnyIn_ready (rs := [0, 3]) (by kernel_rfl) (by simp) ?_
            refine AllReadyIn.cons rfl (fun K hK => ?_) (AllReadyIn.cons rfl (fun K hK => ?_) AllReadyIn.nil)
            · go_simp
              refine hK _ _ ?_
              clear hK K
              refine wpAnyIn_ready (rs := [3]) (by kernel_rfl) (by simp) ?_
              refine AllReadyIn.cons rfl (fun K hK => ?_) AllReadyIn.nil
              go_simp
              refine hK _ _ ?_
              clear hK K
              refine wpAnyIn_ready (rs := [4]) (by kernel_rfl) (by simp) ?_
              refine AllReadyIn.cons rfl (fun K hK => ?_) AllReadyIn.nil
              refine step_append_in rfl (.tmp 16) (.tmp 19) 25 rfl (w.heap.size + 3) 22 i0 (.slice none 0 0) 1 24 Tryd.underlying25 hi hz0 hz1 hz2 rfl (by decide) v (kept (pre.map Piece.told)).length vs rfl ((hrow.kept (grown_below hbel none) (by cases v.ownBlock <;> simp)).alloc _) ⟨w2.heap.size, 0, none⟩ 1 1 [.slice a2 xs.length c2] rfl rfl (cell_one_new _ _ _) (by simp [Value.oneCell']) (by unfold maxLen; omega) (by omega) (by have := hbel.size; simp; omega) ?_
              intro v3 w3 hown3 hgrow3
              obtain ⟨g3, c3, rfl⟩ := ownsRow_succ hown3
              obtain ⟨hv3, hv4, hr4, hrs4, hko, hke⟩ := collect_step (by omega) (by omega) hv hrow hrows hown2 hbel hown3 hgrow3
              refine hK _ _ ?_
              clear hK K
              have hc4 := hv3.cell
              have hf4 := hv3.frozen
              refine wpAnyIn_ready (rs := [5]) (by kernel_rfl) (by simp) ?_
              refine AllReadyIn.cons rfl (fun K hK => ?_) AllReadyIn.nil
              go_simp
              refine hK _ _ ?_
              clear hK K
              refine wpAnyIn_done (by kernel_rfl) ?_ _
              exact ⟨hko.from _, hke, ⟨_, _, hv4, by rw [HK.out, List.length_append]; exact hr4, by rw [HK.out]; exact hrs4⟩, hB.trans hke.1⟩
            · go_simp
              refine hK _ _ ?_
              clear hK K
              refine wpAnyIn_ready (rs := [0]) (by kernel_rfl) (by simp) ?_
              refine AllReadyIn.cons rfl (fun K hK => ?_) AllReadyIn.nil
              go_simp
              refine hK _ _ ?_
              clear hK K
              refine wpAnyIn_ready (rs := [4]) (by kernel_rfl) (by simp) ?_
              refine AllReadyIn.cons rfl (fun K hK => ?_) AllReadyIn.nil
              refine step_append_in rfl (.tmp 16) (.tmp 19) 25 rfl (w.heap.size + 3) 22 i0 (.slice none 0 0) 1 24 Tryd.underlying25 hi hz0 hz1 hz2 rfl (by decide) v (kept (pre.map Piece.told)).length vs rfl ((hrow.kept (grown_below hbel none) (by cases v.ownBlock <;> simp)).alloc _) ⟨w2.heap.size, 0, none⟩ 1 1 [.slice a2 xs.length c2] rfl rfl (cell_one_new _ _ _) (by simp [Value.oneCell']) (by unfold maxLen; omega) (by omega) (by have := hbel.size; simp; omega) ?_
              intro v3 w3 hown3 hgrow3
              obtain ⟨g3, c3, rfl⟩ := ownsRow_succ hown3
              obtain ⟨hv3, hv4, hr4, hrs4, hko, hke⟩ := collect_step (by omega) (by omega) hv hrow hrows hown2 hbel hown3 hgrow3
              refine hK _ _ ?_
              clear hK K
              have hc4 := hv3.cell
              have hf4 := hv3.frozen
              refine wpAnyIn_ready (rs := [5]) (by kernel_rfl) (by simp) ?_
              refine AllReadyIn.cons rfl (fun K hK => ?_) AllReadyIn.nil
              go_simp
              refine hK _ _ ?_
              clear hK K
              refine wpAnyIn_done (by kernel_rfl) ?_ _
              exact ⟨hko.from _, hke, ⟨_, _, hv4, by rw [HK.out, List.length_append]; exact hr4, by rw [HK.out]; exact hrs4⟩, hB.trans hke.1⟩
      · gi_wp2
        refine wpIn_region_any (by assumption) ?_
        change wpAnyIn _ _ _ _ _ _ _ _ _ (World.drew _)
        refine wpAnyIn_ready (rs := [0, 1]) (by kernel_rfl) (by simp) ?_
        refine AllReadyIn.cons rfl (fun K hK => ?_) (AllReadyIn.cons rfl (fun K hK => ?_) AllReadyIn.nil)
        · go_simp
          refine hK _ _ ?_
          clear hK K
          refine wpAnyIn_ready (rs := [1]) (by kernel_rfl) (by simp) ?_
          refine AllReadyIn.cons rfl (fun K hK => ?_) AllReadyIn.nil
          go_simp
          refine hK _ _ ?_
          clear hK K
          refine wpAnyIn_ready (rs := [2]) (by kernel_rfl) (by simp) ?_
          refine AllReadyIn.cons rfl (fun K hK => ?_) AllReadyIn.nil
          go_simp
          refine ⟨fun _ => by omega, ?_⟩
          refine (CallsIn.inRound l (hcl _ _ _ _ _ (hxB.below ((Below.refl _ W).drew)))).mono ?_
          rintro e w2 ⟨v2, rfl, hown2, hbel2⟩
          obtain ⟨a2, c2, rfl⟩ := own_slice hown2
          have hbel : Below W.heap.size W w2 := ((Below.refl _ W).drew).trans hbel2
          have hc2 : w2.cell? ⟨w.heap.size, 0, none⟩ = some v := (hbel.cell (p := ⟨w.heap.size, 0, none⟩) hv.lt).trans hc
          have hc3 : ∀ o, (w2.alloc o).cell? ⟨w.heap.size, 0, none⟩ = some v := fun o => (World.cell?_alloc_past _ _ _ (show w.heap.size < w2.heap.size by have := hbel.size; have := hv.lt; omega)).trans hc2
          refine hK _ _ ?_
          clear hK K
          refine wpAnyIn_ready (rs := [3]) (by kernel_rfl) (by simp) ?_
          refine AllReadyIn.cons rfl (fun K hK => ?_) AllReadyIn.nil
          go_simp
          refine hK _ _ ?_
          clear hK K
          refine wpAnyIn_ready (rs := [4]) (by kernel_rfl) (by simp) ?_
          refine AllReadyIn.cons rfl (fun K hK => ?_) AllReadyIn.nil
          refine step_append_in rfl (.tmp 16) (.tmp 19) 25 rfl (w.heap.size + 3) 22 i0 (.slice none 0 0) 1 24 Tryd.underlying25 hi hz0 hz1 hz2 rfl (by decide) v (kept (pre.map Piece.told)).length vs rfl ((hrow.kept (grown_below hbel none) (by cases v.ownBlock <;> simp)).alloc _) ⟨w2.heap.size, 0, none⟩ 1 1 [.slice a2 xs.length c2] rfl rfl (cell_one_new _ _ _) (by simp [Value.oneCell']) (by unfold maxLen; omega) (by omega) (by have := hbel.size; simp; omega) ?_
          intro v3 w3 hown3 hgrow3
          obtain ⟨g3, c3, rfl⟩ := ownsRow_succ hown3
          obtain ⟨hv3, hv4, hr4, hrs4, hko, hke⟩ := collect_step (by omega) (by omega) hv hrow hrows hown2 hbel hown3 hgrow3
          refine hK _ _ ?_
          clear hK K
          have hc4 := hv3.cell
          have hf4 := hv3.frozen
          refine wpAnyIn_ready (rs := [5]) (by kernel_rfl) (by simp) ?_
          refine AllReadyIn.cons rfl (fun K hK => ?_) AllReadyIn.nil
          go_simp
          refine hK _ _ ?_
          clear hK K
          refine wpAnyIn_done (by kernel_rfl) ?_ _
          exact ⟨hko.from _, hke, ⟨_, _, hv4, by rw [HK.out, List.length_append]; exact hr4, by rw [HK.out]; exact hrs4⟩, hB.trans hke.1⟩
        · go_simp
          refine hK _ _ ?_
          clear hK K
          refine wpAnyIn_ready (rs := [0, 2]) (by kernel_rfl) (by simp) ?_
          refine AllReadyIn.cons rfl (fun K hK => ?_) (AllReadyIn.cons rfl (fun K hK => ?_) AllReadyIn.nil)
          · go_simp
            refine hK _ _ ?_
            clear hK K
            refine wpAnyIn_ready (rs := [2]) (by kernel_rfl) (by simp) ?_
            refine AllReadyIn.cons rfl (fun K hK => ?_) AllReadyIn.nil
            go_simp
            refine ⟨fun _ => by omega, ?_⟩
            refine (CallsIn.inRound l (hcl _ _ _ _ _ (hxB.below ((Below.refl _ W).drew)))).mono ?_
            rintro e w2 ⟨v2, rfl, hown2, hbel2⟩
            obtain ⟨a2, c2, rfl⟩ := own_slice hown2
            have hbel : Below W.heap.size W w2 := ((Below.refl _ W).drew).trans hbel2
            have hc2 : w2.cell? ⟨w.heap.size, 0, none⟩ = some v := (hbel.cell (p := ⟨w.heap.size, 0, none⟩) hv.lt).trans hc
            have hc3 : ∀ o, (w2.alloc o).cell? ⟨w.heap.size, 0, none⟩ = some v := fun o => (World.cell?_alloc_past _ _ _ (show w.heap.size < w2.heap.size by have := hbel.size; have := hv.lt; omega)).trans hc2
            refine hK _ _ ?_
            clear hK K
            refine wpAnyIn_ready (rs := [3]) (by kernel_rfl) (by simp) ?_
            refine AllReadyIn.cons rfl (fun K hK => ?_) AllReadyIn.nil
            go_simp
            refine hK _ _ ?_
            clear hK K
            refine wpAnyIn_ready (rs := [4]) (by kernel_rfl) (by simp) ?_
            refine AllReadyIn.cons rfl (fun K hK => ?_) AllReadyIn.nil
            refine step_append_in rfl (.tmp 16) (.tmp 19) 25 rfl (w.heap.size + 3) 22 i0 (.slice none 0 0) 1 24 Tryd.underlying25 hi hz0 hz1 hz2 rfl (by decide) v (kept (pre.map Piece.told)).length vs rfl ((hrow.kept (grown_below hbel none) (by cases v.ownBlock <;> simp)).alloc _) ⟨w2.heap.size, 0, none⟩ 1 1 [.slice a2 xs.length c2] rfl rfl (cell_one_new _ _ _) (by simp [Value.oneCell']) (by unfold maxLen; omega) (by omega) (by have := hbel.size; simp; omega) ?_
            intro v3 w3 hown3 hgrow3
            obtain ⟨g3, c3, rfl⟩ := ownsRow_succ hown3
            obtain ⟨hv3, hv4, hr4, hrs4, hko, hke⟩ := collect_step (by omega) (by omega) hv hrow hrows hown2 hbel hown3 hgrow3
            refine hK _ _ ?_
            clear hK K
            have hc4 := hv3.cell
            have hf4 := hv3.frozen
            refine wpAnyIn_ready (rs := [5]) (by kernel_rfl) (by simp) ?_
            refine AllReadyIn.cons rfl (fun K hK => ?_) AllReadyIn.nil
            go_simp
            refine hK _ _ ?_
            clear hK K
            refine wpAnyIn_done (by kernel_rfl) ?_ _
            exact ⟨hko.from _, hke, ⟨_, _, hv4, by rw [HK.out, List.length_append]; exact hr4, by rw [HK.out]; exact hrs4⟩, hB.trans hke.1⟩
          · go_simp
            refine ⟨fun _ => by omega, ?_⟩
            refine (CallsIn.inRound l (hcl _ _ _ _ _ (hxB.below ((Below.refl _ W).drew)))).mono ?_
            rintro e w2 ⟨v2, rfl, hown2, hbel2⟩
            obtain ⟨a2, c2, rfl⟩ := own_slice hown2
            have hbel : Below W.heap.size W w2 := ((Below.refl _ W).drew).trans hbel2
            have hc2 : w2.cell? ⟨w.heap.size, 0, none⟩ = some v := (hbel.cell (p := ⟨w.heap.size, 0, none⟩) hv.lt).trans hc
            have hc3 : ∀ o, (w2.alloc o).cell? ⟨w.heap.size, 0, none⟩ = some v := fun o => (World.cell?_alloc_past _ _ _ (show w.heap.size < w2.heap.size by have := hbel.size; have := hv.lt; omega)).trans hc2
            refine hK _ _ ?_
            clear hK K
            refine wpAnyIn_ready (rs := [0, 3]) (by kernel_rfl) (by simp) ?_
            refine AllReadyIn.cons rfl (fun K hK => ?_) (AllReadyIn.cons rfl (fun K hK => ?_) AllReadyIn.nil)
            · go_simp
              refine hK _ _ ?_
              clear hK K
              refine wpAnyIn_ready (rs := [3]) (by kernel_rfl) (by simp) ?_
              refine AllReadyIn.cons rfl (fun K hK => ?_) AllReadyIn.nil
              go_simp
              refine hK _ _ ?_
              clear hK K
              refine wpAnyIn_ready (rs := [4]) (by kernel_rfl) (by simp) ?_
              refine AllReadyIn.cons rfl (fun K hK => ?_) AllReadyIn.nil
              refine step_append_in rfl (.tmp 16) (.tmp 19) 25 rfl (w.heap.size + 3) 22 i0 (.slice none 0 0) 1 24 Tryd.underlying25 hi hz0 hz1 hz2 rfl (by decide) v (kept (pre.map Piece.told)).length vs rfl ((hrow.kept (grown_below hbel none) (by cases v.ownBlock <;> simp)).alloc _) ⟨w2.heap.size, 0, none⟩ 1 1 [.slice a2 xs.length c2] rfl rfl (cell_one_new _ _ _) (by simp [Value.oneCell']) (by unfold maxLen; omega) (by omega) (by have := hbel.size; simp; omega) ?_
              intro v3 w3 hown3 hgrow3
              obtain ⟨g3, c3, rfl⟩ := ownsRow_succ hown3
              obtain ⟨hv3, hv4, hr4, hrs4, hko, hke⟩ := collect_step (by omega) (by omega) hv hrow hrows hown2 hbel hown3 hgrow3
              refine hK _ _ ?_
              clear hK K
              have hc4 := hv3.cell
              have hf4 := hv3.frozen
              refine wpAnyIn_ready (rs := [5]) (by kernel_rfl) (by simp) ?_
              refine AllReadyIn.cons rfl (fun K hK => ?_) AllReadyIn.nil
              go_simp
              refine hK _ _ ?_
              clear hK K
              refine wpAnyIn_done (by kernel_rfl) ?_ _
              exact ⟨hko.from _, hke, ⟨_, _, hv4, by rw [HK.out, List.length_append]; exact hr4, by rw [HK.out]; exact hrs4⟩, hB.trans hke.1⟩
            · go_simp
              refine hK _ _ ?_
              clear hK K
              refine wpAnyIn_ready (rs := [0]) (by kernel_rfl) (by simp) ?_
              refine AllReadyIn.cons rfl (fun K hK => ?_) AllReadyIn.nil
              go_simp
              refine hK _ _ ?_
              clear hK K
              refine wpAnyIn_ready (rs := [4]) (by kernel_rfl) (by simp) ?_
              refine AllReadyIn.cons rfl (fun K hK => ?_) AllReadyIn.nil
              refine step_append_in rfl (.tmp 16) (.tmp 19) 25 rfl (w.heap.size + 3) 22 i0 (.slice none 0 0) 1 24 Tryd.underlying25 hi hz0 hz1 hz2 rfl (by decide) v (kept (pre.map Piece.told)).length vs rfl ((hrow.kept (grown_below hbel none) (by cases v.ownBlock <;> simp)).alloc _) ⟨w2.heap.size, 0, none⟩ 1 1 [.slice a2 xs.length c2] rfl rfl (cell_one_new _ _ _) (by simp [Value.oneCell']) (by unfold maxLen; omega) (by omega) (by have := hbel.size; simp; omega) ?_
              intro v3 w3 hown3 hgrow3
              obtain ⟨g3, c3, rfl⟩ := ownsRow_succ hown3
              obtain ⟨hv3, hv4, hr4, hrs4, hko, hke⟩ := collect_step (by omega) (by omega) hv hrow hrows hown2 hbel hown3 hgrow3
              refine hK _ _ ?_
              clear hK K
              have hc4 := hv3.cell
              have hf4 := hv3.frozen
              refine wpAnyIn_ready (rs := [5]) (by kernel_rfl) (by simp) ?_
              refine AllReadyIn.cons rfl (fun K hK => ?_) AllReadyIn.nil
              go_simp
              refine hK _ _ ?_
              clear hK K
              refine wpAnyIn_done (by kernel_rfl) ?_ _
              exact ⟨hko.from _, hke, ⟨_, _, hv4, by rw [HK.out, List.length_append]; exact hr4, by rw [HK.out]; exact hrs4⟩, hB.trans hke.1⟩
    · have hx1 : xe = false := by cases xe <;> simp_all
      have hx2 : xs.length = 0 := by omega
      subst hx1
      have HK : Hid (kept ((pre ++ [x]).map Piece.told) = kept (pre.map Piece.told)) := by
        show kept _ = kept _
        rw [List.map_append, List.map_cons, List.map_nil, HT.out]
        simp [kept, hx2]
      gi_wp2
      exact ⟨KeepsFrom.refl _ _, Keeps.refl _ _ _, ⟨v, vs, hv, by rw [HK.out]; exact hrow, by rw [HK.out]; exact hrows⟩, hB⟩
  case done =>
    rintro D ys W hD hys ⟨⟨v, vs, hv, hrow, hrows⟩, hB⟩ hK
    have hc := hv.cell
    gi_wp2
    refine ⟨by simp, .inl ⟨_, _, rfl, run_takeDeferred hK, ?_⟩⟩
    rw [hys] at hrow hrows
    exact ⟨_, results_tmp rfl _ _ _, v, vs, rfl, ownsRow_putObj hrow _ hK rfl, (rows_own (w.heap.size + 3)).putObj (s := (vs, kept (pcs feedB bs))) _ hrows hK rfl, (hB0.trans hB).trans (belowK_b (w := w) (Nat.le_refl _) W D _ _ (by omega) hK rfl rfl)⟩
  case stop =>
    rintro D c pre W _ _ h _
    exact h.elim
end Go.Proofs.YtcpclpckjheadaaDoor
