/- printf: a FORMAT is read: its state between two pieces. -/
import Derived.Test.YteimilnecahifaaGreatDoorFEscN
import Derived.Deep.Cut
import Derived.Test.YteimilnecahifaaGreatDoorFLet
namespace Go.Proofs.YteimilnecahifaaGreatDoor.Nm
open Go.Proofs.YteimilnecahifaaGreatDoor Go.Proofs.YteimilnecahifaaGreatDoor.Op
open Go.RowKit Go.Proofs.YteimilnecahifaaGreatDoor.Re

theorem part_info : (Tryz.prog.info? 254).map (fun i => (i.zero, i.size, i.bytes)) = some (some .nilFunc, 1, 8) := by kernel_rfl
theorem part_parts : ∃ i, Tryz.prog.info? 254 = some i ∧ i.zero = some .nilFunc ∧ i.size = 1 ∧ i.bytes = 8 := by
  obtain ⟨i, h, e⟩ := Option.map_eq_some_iff.1 part_info
  simp only [Prod.mk.injEq] at e
  exact ⟨i, h, e.1, e.2.1, e.2.2⟩
/-- Parts onto parts. -/
theorem wpList_parts {w : World} {ops : Array Oper} {rest : List Oper} {o : Oper} {a : Act} {Q : Exit → Act → World → Prop} (hgd : o.guard = none) (s x : Operand)
    (ho : o.op = .call { callee := .builtin .append, args := #[s, x], argTypes := #[198, 198] }) (B : Nat) (v : Value) (xs : List Value) (hs : a.eval s = v) (hown : w.ownsRow B 254 1 v xs.length xs) (q : Nat) (news : List Value) (hx : a.eval x = .slice (some ⟨q, 0, none⟩) news.length news.length) (hq : w.heap[q]? = some (.cells news.toArray 254)) (h1 : ∀ u ∈ news, u.oneCell' = true) (hb : xs.length + news.length ≤ 65536) (hB : B ≤ w.heap.size)
    (h : ∀ v' w', w'.ownsRow B 254 1 v' (xs ++ news).length (xs ++ news) → w.grownBy w' v.ownBlock → wpList Tryz.prog ops Q rest (a.put o.dst v') w') : wpList Tryz.prog ops Q (o :: rest) a w := by
  obtain ⟨i, hi, hz, hsize, hby⟩ := part_parts
  have hnews : ∀ j u, news[j]? = some u → w.cell? ((⟨q, 0, none⟩ : Addr).add j) = some u := fun j u hu => by
    rw [Addr.add_lit]
    exact h_cell hq _ (by rw [Nat.zero_add]; simpa using hu)
  refine wpList_append_own w hgd s x 198 ho B 254 i .nilFunc 1 8 Tryz.underlying198 hi hz hsize hby rfl (by decide) v xs.length xs hs hown ⟨q, 0, none⟩ news.length news.length news hx (by rw [Nat.mul_one]) hnews h1 (by unfold maxLen; omega) (by omega) hB (fun v' w' h2 h3 _ => h v' w' ?_ h3)
  rw [List.length_append]
  exact h2
/-- The state: B: the world's size ahead of all; F: what all comes to. -/
structure FmtAt (w0 : World) (F : List Pc) (w : World) (pv plv : Value) (r : List UInt8) (P : List Pc) (pl : List UInt8) (lr : List Pc) (m : Nat) (S : List Nat) (vs : List Value) : Prop where
  rd : piecesN m r = some lr
  ok : okF r = true
  fin : P ++ mergeP pl lr = F
  cv : ∀ x ∈ lr, x.letter = 0 ∨ OkPc x
  vl : vs.length = P.length
  row : w.ownsRow w0.heap.size 254 1 pv vs.length vs
  pt : ∀ j (hj : j < P.length), ∃ v, vs[j]? = some v ∧ PartAt w S v P[j]
  fn : ∀ u ∈ vs, u.oneCell' = true
  sbl : ∀ b ∈ S, w0.heap.size ≤ b ∧ b < w.heap.size ∧ ∃ cs T, w.heap[b]? = some (.cells cs T) ∧ T ≠ 254
  prow : Row w w0.heap.size plv pl
  pn : ∀ b, plv.ownBlock = some b → b ∉ S
  bel : Below w0.heap.size w0 w
  l1 : P.length + r.length ≤ 8192
  l2 : pl.length + r.length ≤ 8192
theorem row_typed {w : World} {B : Nat} {v : Value} {l : List UInt8} (h : Row w B v l) (b : Nat) (e : v.ownBlock = some b) : ∃ cs, w.heap[b]? = some (.cells cs 5) := by
  rcases h.2 with ⟨rfl, _⟩ | ⟨g, cap, cur, rfl, _, hg, _⟩
  · cases e
  · cases e
    exact ⟨cur, hg⟩
theorem parts_typed {w : World} {B n : Nat} {v : Value} {xs : List Value} (h : w.ownsRow B 254 1 v n xs) (b : Nat) (e : v.ownBlock = some b) : ∃ cs, w.heap[b]? = some (.cells cs 254) := by
  rcases h.2 with ⟨rfl, _⟩ | ⟨g, cap, cur, rfl, _, hg, _⟩
  · cases e
  · cases e
    exact ⟨cur, hg⟩
section
variable {w0 w : World} {F : List Pc} {pv plv : Value} {r : List UInt8} {P : List Pc} {pl : List UInt8} {lr : List Pc} {m : Nat} {S : List Nat} {vs : List Value}
/-- Plain bytes have grown. -/
theorem FmtAt.grow (h : FmtAt w0 F w pv plv r P pl lr m S vs) {w' : World} {plv' : Value} {bs r' : List UInt8} {l' : List Pc} {m' : Nat} (hlr : lr = { b := bs } :: l') (hrd : piecesN m' r' = some l') (hok : okF r' = true) (hp : PlainOut w0.heap.size w plv plv' (pl ++ bs) w') (hl : bs.length + r'.length ≤ r.length) : FmtAt w0 F w' pv plv' r' P (pl ++ bs) l' m' S vs := by
  obtain ⟨h1, h2, h3⟩ := hp
  have hS : ∀ b ∈ S, b ∉ plv.ownBlock.toList := fun b hb e => h.pn b (by simpa using e) hb
  refine ⟨hrd, hok, ?_, fun x hx => h.cv x (by rw [hlr]; simp [hx]), h.vl, ?_, fun j hj => ?_, h.fn, fun b hb => ?_, h1, fun b e hb => ?_, h.bel.trans (turn_below h3 (fun k hk => (row_ltB h.prow k (by simpa using hk)).1) h.bel.size), ?_, ?_⟩
  · rw [← merge_byte, ← hlr]; exact h.fin
  · rcases h.row.2 with hn | ⟨g, cap, cur, e, hb, hg, q⟩
    · exact ⟨h.row.1, .inl hn⟩
    · refine ⟨h.row.1, .inr ⟨g, cap, cur, e, hb, (h3.block g (h_lt hg) (fun e2 => ?_)).trans hg, q⟩⟩
      obtain ⟨cs, h4⟩ := row_typed h.prow g (by simpa using e2)
      rw [hg] at h4
      cases h4
  · obtain ⟨v, hv, hpa⟩ := h.pt j hj
    exact ⟨v, hv, hpa.turn h3 hS⟩
  · obtain ⟨a, b2, cs, T, c, d⟩ := h.sbl b hb
    exact ⟨a, Nat.lt_of_lt_of_le b2 h3.size, cs, T, (h3.block b b2 (hS b hb)).trans c, d⟩
  · rcases h2 b e with e2 | e2
    · exact h.pn b e2 hb
    · have := (h.sbl b hb).2.1
      omega
  · have := h.l1
    omega
  · have := h.l2
    rw [List.length_append]
    omega
/-- A part of bytes: where it lies. -/
theorem bytes_part {w2 : World} {B : Nat} (hr : Row w2 B plv pl) : PartAt (w2.alloc (.cells #[plv] 27)) (w2.heap.size :: plv.ownBlock.toList) (.func (.func 188) #[] #[ptr w2.heap.size]) { b := pl } := by
  refine .inl ⟨rfl, w2.heap.size, by simp, plv, rfl, al_new _ _, row_low (row_turn hr ((Below.refl _ w2).alloc (Nat.le_refl _) _)) (Nat.zero_le _), fun b e => by simp [e]⟩
/-- A conversion was read, and stands behind the bytes ahead of it. -/
theorem FmtAt.conv (h : FmtAt w0 F w pv plv r P pl lr m S vs) {x : Pc} {r' : List UInt8} {l' : List Pc} {m' : Nat} {w2 w5 : World} {v2 pv' : Value} {S1 : List Nat} (hlr : lr = x :: l') (hx0 : x.letter ≠ 0) (hrd : piecesN m' r' = some l') (hok : okF r' = true) (hB2 : Below w.heap.size w w2) (hf2 : ∃ f y z, v2 = .func f y z) (hp2 : PartAt w2 S1 v2 x) (hS1 : ∀ b ∈ S1, w.heap.size ≤ b ∧ b < w2.heap.size ∧ ∃ cs T, w2.heap[b]? = some (.cells cs T) ∧ T ≠ 254) (hrow : w5.ownsRow w0.heap.size 254 1 pv' (vs ++ [.func (.func 188) #[] #[ptr w2.heap.size], v2]).length (vs ++ [.func (.func 188) #[] #[ptr w2.heap.size], v2])) (hgr : ((w2.alloc (.cells #[plv] 27)).alloc (.cells #[.func (.func 188) #[] #[ptr w2.heap.size], v2] 254)).grownBy w5 pv.ownBlock) (hl : r'.length + 2 ≤ r.length) : ∃ S', FmtAt w0 F w5 pv' (.slice none 0 0) r' (P ++ [{ b := pl }, x]) [] l' m' S' (vs ++ [.func (.func 188) #[] #[ptr w2.heap.size], v2]) := by
  have hB3 : Below w2.heap.size w2 (w2.alloc (.cells #[plv] 27)) := (Below.refl _ w2).alloc (Nat.le_refl _) _
  have hz3 : (w2.alloc (.cells #[plv] 27)).heap.size = w2.heap.size + 1 := by simp
  have hB4 : Below w2.heap.size w2 ((w2.alloc (.cells #[plv] 27)).alloc (.cells #[.func (.func 188) #[] #[ptr w2.heap.size], v2] 254)) := hB3.alloc (by omega) _
  have hB34 : Below (w2.alloc (.cells #[plv] 27)).heap.size (w2.alloc (.cells #[plv] 27)) ((w2.alloc (.cells #[plv] 27)).alloc (.cells #[.func (.func 188) #[] #[ptr w2.heap.size], v2] 254)) := (Below.refl _ _).alloc (Nat.le_refl _) _
  have hz4 : ((w2.alloc (.cells #[plv] 27)).alloc (.cells #[.func (.func 188) #[] #[ptr w2.heap.size], v2] 254)).heap.size = w2.heap.size + 2 := by simp
  have hprow2 : Row w2 w0.heap.size plv pl := row_turn h.prow hB2
  have hbp := bytes_part hprow2
  have hnb : (w2.alloc (.cells #[plv] 27)).heap[w2.heap.size]? = some (.cells #[plv] 27) := al_new _ _
  generalize w2.alloc (.cells #[plv] 27) = w3 at *
  generalize w3.alloc (.cells #[.func (.func 188) #[] #[ptr w2.heap.size], v2] 254) = w4 at *
  have hT24 : Turn ([] : List Nat) w2 w4 := Turn.below hB4
  have hT34 : Turn ([] : List Nat) w3 w4 := Turn.below hB34
  have hT02 : Turn ([] : List Nat) w w2 := Turn.below hB2
  have hT45 : Turn pv.ownBlock.toList w4 w5 := ⟨hgr.os, hgr.tape, hgr.output, hgr.size, fun k hk hn => hgr.block k hk (fun e => hn (by rw [← e]; simp))⟩
  have hs2 := hB2.size
  have hs0 := h.bel.size
  have hs5 := hgr.size
  have hne : ∀ b, (∃ cs T, w4.heap[b]? = some (.cells cs T) ∧ T ≠ 254) → b ∉ pv.ownBlock.toList := fun b ⟨cs, T, h1, h2⟩ e => by
    obtain ⟨cs2, h3⟩ := parts_typed h.row b (by simpa using e)
    have h4 := (hT24.ob (hT02.ob h3 (by simp)) (by simp))
    rw [h1] at h4
    cases h4
    exact h2 rfl
  have hty : ∀ b ∈ S1 ++ (w2.heap.size :: plv.ownBlock.toList ++ S), w0.heap.size ≤ b ∧ b < w4.heap.size ∧ ∃ cs T, w4.heap[b]? = some (.cells cs T) ∧ T ≠ 254 := fun b hb => by
    simp only [List.mem_append, List.mem_cons, Option.mem_toList] at hb
    rcases hb with hb | (rfl | hb) | hb
    · obtain ⟨a, b2, cs, T, c, d⟩ := hS1 b hb
      exact ⟨by omega, by omega, cs, T, hT24.ob c (by simp), d⟩
    · exact ⟨by omega, by omega, _, _, hT34.ob hnb (by simp), by decide⟩
    · obtain ⟨cs, h1⟩ := row_typed hprow2 b hb
      have h2 := row_ltB hprow2 b hb
      exact ⟨h2.1, by omega, cs, _, hT24.ob h1 (by simp), by decide⟩
    · obtain ⟨a, b2, cs, T, c, d⟩ := h.sbl b hb
      exact ⟨a, by omega, cs, T, hT24.ob (hT02.ob c (by simp)) (by simp), d⟩
  have hk : ∀ b ∈ S1 ++ (w2.heap.size :: plv.ownBlock.toList ++ S), b ∉ pv.ownBlock.toList := fun b hb => hne b (hty b hb).2.2
  refine ⟨S1 ++ (w2.heap.size :: plv.ownBlock.toList ++ S), hrd, hok, ?_, fun y hy => h.cv y (by rw [hlr]; simp [hy]), by simp [h.vl], hrow, fun j hj => ?_, fun u hu => ?_, fun b hb => ?_, World.ownsRow_nil _ _ _ _, fun b e => (by cases e), (h.bel.trans (hB2.mono hs0)).trans ((hB4.mono (by omega)).trans (turn_below hT45 (fun k hk => ?_) (by omega))), ?_, ?_⟩
  · rw [← h.fin, hlr, merge_conv hx0]
    simp
  · simp only [List.length_append, List.length_cons, List.length_nil] at hj
    by_cases hj1 : j < P.length
    · obtain ⟨v, hv, hpa⟩ := h.pt j hj1
      refine ⟨v, by rw [List.getElem?_append_left (by rw [h.vl]; exact hj1)]; exact hv, ?_⟩
      rw [List.getElem_append_left hj1]
      exact ((((hpa.turn hT02 (by simp)).turn hT24 (by simp)).turn hT45 (fun b hb => hk b (by simp [hb]))).sub (fun b hb => by simp [hb]))
    · by_cases hj2 : j = P.length
      · subst hj2
        refine ⟨_, by rw [List.getElem?_append_right (by rw [h.vl]; exact Nat.le_refl _), h.vl, Nat.sub_self]; rfl, ?_⟩
        have e : (P ++ [({ b := pl } : Pc), x])[P.length]'(by simp) = { b := pl } := by simp
        rw [e]
        exact ((hbp.turn hT34 (by simp)).turn hT45 (fun b hb => hk b (by simp only [List.mem_append, List.mem_cons] at hb ⊢; exact .inr (.inl hb)))).sub (fun b hb => by simp only [List.mem_append, List.mem_cons] at hb ⊢; exact .inr (.inl hb))
      · obtain rfl : j = P.length + 1 := by omega
        refine ⟨v2, by rw [List.getElem?_append_right (by rw [h.vl]; omega), h.vl]; simp, ?_⟩
        have e : (P ++ [({ b := pl } : Pc), x])[P.length + 1]'(by simp) = x := by simp
        rw [e]
        exact ((hp2.turn hT24 (by simp)).turn hT45 (fun b hb => hk b (by simp [hb]))).sub (fun b hb => by simp [hb])
  · simp only [List.mem_append, List.mem_cons, List.not_mem_nil, or_false] at hu
    rcases hu with hu | rfl | rfl
    · exact h.fn u hu
    · rfl
    · obtain ⟨f, y, z, rfl⟩ := hf2
      rfl
  · obtain ⟨a, b2, cs, T, c, d⟩ := hty b hb
    exact ⟨a, by omega, cs, T, hT45.ob c (hk b hb), d⟩
  · exact (h.row.lt k (by simpa using hk)).1
  · have := h.l1
    simp only [List.length_append, List.length_cons, List.length_nil]
    omega
  · have := h.l2
    simp only [List.length_nil]
    omega
end
end Go.Proofs.YteimilnecahifaaGreatDoor.Nm

namespace Go.Proofs.YteimilnecahifaaGreatDoor.Nm
open Go.Proofs.YteimilnecahifaaGreatDoor Go.Proofs.YteimilnecahifaaGreatDoor.Op
open Go.RowKit Go.Proofs.YteimilnecahifaaGreatDoor.Re

theorem has_pp (c : UInt8) (t : List UInt8) (h : c ≠ 37 ∨ t.head? ≠ some 37) (w : World) : Calls Tryz.prog 152 #[.string (bz (c :: t)), .string ⟨#[37, 37]⟩] w fun e w' => e = .returned (.bool false) ∧ w' = w := by
  have h2 := Tryz.strings_HasPrefix (bz (c :: t)) ⟨#[37, 37]⟩ w
  have e : Lib.hasPrefix (bz (c :: t)).data.toList (⟨#[37, 37]⟩ : ByteArray).data.toList = false := by
    rw [bz_list, show (⟨#[37, 37]⟩ : ByteArray).data.toList = [37, 37] from rfl]
    rcases h with h | h
    · exact has_two1 _ _ _ _ (Ne.symm h)
    · cases t with
      | nil => simp [Lib.hasPrefix, List.isPrefixOf]
      | cons d t =>
        have hd : d ≠ 37 := fun e => h (by rw [e]; rfl)
        rw [has_two]
        simp [Ne.symm hd]
  rw [e] at h2
  exact h2
theorem FmtAt.start {w : World} {f : List UInt8} {l0 : List Pc} (h : piecesS f = some l0) (hok : okF f = true) (hcv : ∀ x ∈ l0, x.letter = 0 ∨ OkPc x) (hz : f.length ≤ 4096) : FmtAt w (mergeP [] l0) w (.slice none 0 0) (.slice none 0 0) f [] [] l0 f.length [] [] :=
  ⟨h, hok, rfl, hcv, rfl, World.ownsRow_nil _ _ _ _, fun j hj => absurd hj (by simp), fun u hu => absurd hu (by simp), fun b hb => absurd hb (by simp), World.ownsRow_nil _ _ _ _, fun b e => (by cases e), Below.refl _ _, by simp; omega, by simp; omega⟩
theorem own_bel {w w' : World} {B e n : Nat} {v : Value} {xs : List Value} (h : w.ownsRow B e 1 v n xs) (hB : Below w.heap.size w w') : w'.ownsRow B e 1 v n xs := by
  rcases h.2 with hn | ⟨g, cap, cur, rfl, hb, hg, r⟩
  · exact ⟨h.1, .inl hn⟩
  · exact ⟨h.1, .inr ⟨g, cap, cur, rfl, hb, (hB.block g (h_lt hg)).trans hg, r⟩⟩
theorem flags_le : ∀ (l : List UInt8) (x : Pc), (flagsS x l).2.length ≤ l.length
  | [], _ => Nat.le_refl _
  | c :: r, x => by
    rw [flagsS]
    split
    · rename_i y _
      have := flags_le r y
      simp only [List.length_cons]
      omega
    · exact Nat.le_refl _
theorem conv_le {l r : List UInt8} {x : Pc} (h : convP l = some (x, r)) (hx : OkPc x) : r.length + 1 ≤ l.length := by
  obtain ⟨y, l1, n, c, hf, hu, _⟩ := conv_parts h hx
  have h1 := flags_le l {}
  rw [hf] at h1
  simp only at h1
  have h2 := upTo_le hu
  simp only [List.length_cons] at h2
  omega
theorem plain_out {w w2 : World} {B : Nat} {v v' : Value} {l : List UInt8} {c : Int} (h1 : Row w2 B v' l) (hg : (w.drew.alloc (.cells #[.int .u8 c] 5)).grownBy w2 v.ownBlock) (hsn : SameNew (w.drew.alloc (.cells #[.int .u8 c] 5)) v v') : PlainOut B w v v' l w2 := by
  have hB1 : Below w.heap.size w (w.drew.alloc (.cells #[.int .u8 c] 5)) := (Below.refl _ w).drew.alloc (by simp) _
  refine ⟨h1, fun b e => ?_, ?_⟩
  · rcases hsn b e with h | h
    · exact .inl h
    · exact .inr (Nat.le_trans hB1.size h)
  · exact (Turn.below hB1).trans ⟨hg.os, hg.tape, hg.output, hg.size, fun k hk hn => hg.block k hk (fun e => hn (by rw [← e]; simp))⟩
/-- All is read. -/
theorem FmtAt.final {w0 w : World} {F : List Pc} {pv plv pv' : Value} {P : List Pc} {pl : List UInt8} {lr : List Pc} {m : Nat} {S : List Nat} {vs : List Value} (h : FmtAt w0 F w pv plv [] P pl lr m S vs) {w5 : World} (hrow : w5.ownsRow w0.heap.size 254 1 pv' (vs ++ [Value.func (.func 188) #[] #[ptr w.heap.size]]).length (vs ++ [Value.func (.func 188) #[] #[ptr w.heap.size]])) (hgr : ((w.alloc (.cells #[plv] 27)).alloc (.cells #[.func (.func 188) #[] #[ptr w.heap.size]] 254)).grownBy w5 pv.ownBlock) : ∃ S0, PartsIn w5 S0 pv' F ∧ (∀ b ∈ S0, w0.heap.size ≤ b ∧ b < w5.heap.size) ∧ Below w0.heap.size w0 w5 := by
  have hlr := pieces_end h.rd
  have hF : F = P ++ [{ b := pl }] := by rw [← h.fin, hlr, mergeP]
  have hB3 : Below w.heap.size w (w.alloc (.cells #[plv] 27)) := (Below.refl _ w).alloc (Nat.le_refl _) _
  have hz3 : (w.alloc (.cells #[plv] 27)).heap.size = w.heap.size + 1 := by simp
  have hB34 : Below (w.alloc (.cells #[plv] 27)).heap.size (w.alloc (.cells #[plv] 27)) ((w.alloc (.cells #[plv] 27)).alloc (.cells #[.func (.func 188) #[] #[ptr w.heap.size]] 254)) := (Below.refl _ _).alloc (Nat.le_refl _) _
  have hbp := bytes_part h.prow
  have hnb : (w.alloc (.cells #[plv] 27)).heap[w.heap.size]? = some (.cells #[plv] 27) := al_new _ _
  generalize w.alloc (.cells #[plv] 27) = w3 at *
  have hz4 : (w3.alloc (.cells #[.func (.func 188) #[] #[ptr w.heap.size]] 254)).heap.size = w3.heap.size + 1 := by simp
  generalize w3.alloc (.cells #[.func (.func 188) #[] #[ptr w.heap.size]] 254) = w4 at *
  have hT03 : Turn ([] : List Nat) w w3 := Turn.below hB3
  have hT34 : Turn ([] : List Nat) w3 w4 := Turn.below hB34
  have hT45 : Turn pv.ownBlock.toList w4 w5 := ⟨hgr.os, hgr.tape, hgr.output, hgr.size, fun k hk hn => hgr.block k hk (fun e => hn (by rw [← e]; simp))⟩
  have hs5 := hgr.size
  have hs0 := h.bel.size
  have hne : ∀ b, (∃ cs T, w4.heap[b]? = some (.cells cs T) ∧ T ≠ 254) → b ∉ pv.ownBlock.toList := fun b ⟨cs, T, h1, h2⟩ e => by
    obtain ⟨cs2, h3⟩ := parts_typed h.row b (by simpa using e)
    have h4 := (hT34.ob (hT03.ob h3 (by simp)) (by simp))
    rw [h1] at h4
    cases h4
    exact h2 rfl
  have hty : ∀ b ∈ w.heap.size :: plv.ownBlock.toList ++ S, w0.heap.size ≤ b ∧ b < w4.heap.size ∧ ∃ cs T, w4.heap[b]? = some (.cells cs T) ∧ T ≠ 254 := fun b hb => by
    simp only [List.mem_append, List.mem_cons, Option.mem_toList] at hb
    rcases hb with (rfl | hb) | hb
    · exact ⟨by omega, by omega, _, _, hT34.ob hnb (by simp), by decide⟩
    · obtain ⟨cs, h1⟩ := row_typed h.prow b hb
      have h2 := row_ltB h.prow b hb
      exact ⟨h2.1, by omega, cs, _, hT34.ob (hT03.ob h1 (by simp)) (by simp), by decide⟩
    · obtain ⟨a, b2, cs, T, c, d⟩ := h.sbl b hb
      exact ⟨a, by omega, cs, T, hT34.ob (hT03.ob c (by simp)) (by simp), d⟩
  have hk : ∀ b ∈ w.heap.size :: plv.ownBlock.toList ++ S, b ∉ pv.ownBlock.toList := fun b hb => hne b (hty b hb).2.2
  have hln : (vs ++ [(.func (.func 188) #[] #[ptr w.heap.size] : Value)]).length = F.length := by rw [hF]; simp [h.vl]
  obtain ⟨g, cap, cur, rfl, hbg, hg, hle, hcm, _⟩ : ∃ g cap cur, pv' = .slice (some ⟨g, 0, none⟩) F.length cap ∧ w0.heap.size ≤ g ∧ w5.heap[g]? = some (.cells cur 254) ∧ F.length ≤ cap ∧ cap ≤ maxLen ∧ True := by
    rcases hrow.2 with ⟨_, h0⟩ | ⟨g, cap, cur, e, hbg, hg, hle, hcm, _⟩
    · simp at h0
    · exact ⟨g, cap, cur, by rw [e, hln], hbg, hg, by rw [← hln]; exact hle, hcm, trivial⟩
  have hcell : ∀ j u, (vs ++ [(.func (.func 188) #[] #[ptr w.heap.size] : Value)])[j]? = some u → w5.cell? ⟨g, j, none⟩ = some u := fun j u hu => by
    have := hrow.cells (g := g) rfl j u hu
    rw [Addr.add_lit, Nat.zero_add] at this
    exact this
  refine ⟨g :: (w.heap.size :: plv.ownBlock.toList ++ S), ⟨g, cap, rfl, hle, by unfold maxLen at hcm; omega, by simp, h_lt hg, fun j hj => ?_⟩, fun b hb => ?_, (h.bel.trans (hB3.mono hs0)).trans ((hB34.mono (by omega)).trans (turn_below hT45 (fun k hk => (h.row.lt k (by simpa using hk)).1) (by omega)))⟩
  · subst hF
    simp only [List.length_append, List.length_cons, List.length_nil] at hj
    by_cases hj1 : j < P.length
    · obtain ⟨v, hv, hpa⟩ := h.pt j hj1
      refine ⟨v, hcell j v (by rw [List.getElem?_append_left (by rw [h.vl]; exact hj1)]; exact hv), ?_⟩
      rw [List.getElem_append_left hj1]
      exact ((((hpa.turn hT03 (by simp)).turn hT34 (by simp)).turn hT45 (fun b hb => hk b (by simp [hb]))).sub (fun b hb => by simp [hb]))
    · obtain rfl : j = P.length := by omega
      refine ⟨_, hcell P.length _ (by rw [List.getElem?_append_right (by rw [h.vl]; exact Nat.le_refl _), h.vl, Nat.sub_self]; rfl), ?_⟩
      have e : (P ++ [({ b := pl } : Pc)])[P.length]'(by simp) = { b := pl } := by simp
      rw [e]
      exact ((hbp.turn hT34 (by simp)).turn hT45 (fun b hb => hk b (by simp only [List.mem_append]; exact .inl hb))).sub (fun b hb => by simp only [List.mem_append, List.mem_cons] at hb ⊢; exact .inr (.inl hb))
  · rcases List.mem_cons.1 hb with rfl | hb
    · exact ⟨hbg, h_lt hg⟩
    · obtain ⟨a, b2, _⟩ := hty b hb
      exact ⟨a, by omega⟩
theorem own_sl {w : World} {B e n : Nat} {v : Value} {xs : List Value} (h : w.ownsRow B e 1 v n xs) : ∃ a c, v = .slice a n c := by
  rcases h.2 with ⟨rfl, h0⟩ | ⟨g, cap, cur, rfl, _⟩
  · exact ⟨none, 0, by rw [h0]⟩
  · exact ⟨_, _, rfl⟩
theorem okF_drop : ∀ (n : Nat) {r : List UInt8}, okF r = true → okF (r.drop n) = true
  | 0, _, h => by simpa using h
  | n + 1, [], _ => by simp [okF]
  | n + 1, _ :: r, h => by simpa using okF_drop n (okF_tail h)
theorem okF_suffix {a r : List UInt8} (h : okF (a ++ r) = true) : okF r = true := by
  have := okF_drop a.length h
  simpa using this
theorem flags_suffix : ∀ (l : List UInt8) (x : Pc), ∃ a, l = a ++ (flagsS x l).2
  | [], _ => ⟨[], rfl⟩
  | c :: r, x => by
    rw [flagsS]
    split
    · rename_i y _
      obtain ⟨a, h⟩ := flags_suffix r y
      exact ⟨c :: a, by rw [List.cons_append, ← h]⟩
    · exact ⟨[], rfl⟩
theorem okF_conv {l r : List UInt8} {x : Pc} (h : convP l = some (x, r)) (hx : OkPc x) (hok : okF l = true) : okF r = true := by
  obtain ⟨y, l1, n, c, hf, hu, _⟩ := conv_parts h hx
  obtain ⟨a, ha⟩ := flags_suffix l {}
  rw [hf] at ha
  rw [ha] at hok
  have h1 := okF_suffix hok
  unfold upToS at hu
  split at hu
  · simp only [Option.some.injEq, Prod.mk.injEq] at hu
    have h2 : l1 = l1.takeWhile isDig ++ l1.dropWhile isDig := (List.takeWhile_append_dropWhile).symm
    have h1 : okF l1 = true := h1
    rw [h2, hu.2] at h1
    exact okF_tail (okF_suffix h1)
  · cases hu
theorem part_eql (f : Fn) (x y : Array Value) (w : World) : (binOp .eql 254 (.func f x y) .nilFunc).run Tryz.prog w = .ok (.bool false) w := by kernel_rfl
theorem q_new2 (w : World) (plv v2 : Value) : ((w.alloc (.cells #[plv] 27)).alloc (.cells #[.func (.func 188) #[] #[ptr w.heap.size], v2] 254)).heap[w.heap.size + 1]? = some (.cells #[.func (.func 188) #[] #[ptr w.heap.size], v2] 254) := by
  have := al_new (w.alloc (.cells #[plv] 27)) (.cells #[.func (.func 188) #[] #[ptr w.heap.size], v2] 254)
  rw [show (w.alloc (.cells #[plv] 27)).heap.size = w.heap.size + 1 by simp] at this
  exact this
set_option maxRecDepth 100000 in
set_option maxHeartbeats 8000000 in
theorem readFormat_c {f : List UInt8} {l0 : List Pc} (h : piecesS f = some l0) (hok : okF f = true) (hcv : ∀ x ∈ l0, x.letter = 0 ∨ OkPc x) (hz : f.length ≤ 4096) (w : World) : Calls Tryz.prog 117 #[.string (bz f)] w fun e w' => ∃ pv S0, e = .returned (.tuple #[pv, .bool true]) ∧ PartsIn w' S0 pv (mergeP [] l0) ∧ (∀ b ∈ S0, w.heap.size ≤ b ∧ b < w'.heap.size) ∧ Below w.heap.size w w' := by
  have HS := Lib.hid (FmtAt.start (w := w) h hok hcv hz)
  clear h hok hcv hz
  go_enter Tryz.func117, Tryz.ntmps117
  go_wp2
  go_loopw [0, 4, 5] (fun sv pv plv wr => ∃ (r : List UInt8) (P : List Pc) (pl : List UInt8) (lr : List Pc) (m : Nat) (S : List Nat) (vs : List Value), sv = .string (bz r) ∧ (∃ a n c, pv = .slice a n c) ∧ (∃ a n c, plv = .slice a n c) ∧ Hid (FmtAt w (mergeP [] l0) wr pv plv r P pl lr m S vs)) (fun sv _ _ _ => strSize sv)
  case atStart => exact ⟨f, [], [], l0, f.length, [], [], rfl, ⟨_, _, _, rfl⟩, ⟨_, _, _, rfl⟩, HS⟩
  case round =>
    obtain ⟨r, P, pl, lr, m, S, vs, rfl, ⟨a1, n1, c1, rfl⟩, ⟨a2, n2, c2, rfl⟩, H⟩ := hrel
    cases r with
    | nil =>
      have hem : (bz []).toList.isEmpty = true := by rw [ByteArray.toList_eq, bz_list]; rfl
      have has := as_c (.slice a2 n2 c2) wr ⟨_, _, _, rfl⟩
      have hown : ((wr.alloc (.cells #[.slice a2 n2 c2] 27)).alloc (.cells #[.func (.func 188) #[] #[ptr wr.heap.size]] 254)).ownsRow w.heap.size 254 1 (.slice a1 n1 c1) vs.length vs := (H.out.row.alloc _).alloc _
      have hq : ((wr.alloc (.cells #[.slice a2 n2 c2] 27)).alloc (.cells #[.func (.func 188) #[] #[ptr wr.heap.size]] 254)).heap[wr.heap.size + 1]? = some (.cells #[.func (.func 188) #[] #[ptr wr.heap.size]] 254) := by
        have := al_new (wr.alloc (.cells #[.slice a2 n2 c2] 27)) (.cells #[.func (.func 188) #[] #[ptr wr.heap.size]] 254)
        rw [show (wr.alloc (.cells #[.slice a2 n2 c2] 27)).heap.size = wr.heap.size + 1 by simp] at this
        exact this
      have hvl : vs.length ≤ 8192 := by have := H.out.l1; rw [H.out.vl]; omega
      have hbs := H.out.bel.size
      go_wp2_with (first
        | (go_at_call 154; refine has.mono ?_; rintro e w3 ⟨rfl, hw3⟩; rw [hw3]; clear hw3)
        | (at_builtin; refine wpList_parts rfl _ _ rfl w.heap.size _ vs rfl hown _ [.func (.func 188) #[] #[ptr wr.heap.size]] rfl hq (fun u hu => (by simp only [List.mem_singleton] at hu; subst hu; rfl)) (by simp; omega) (by simp; omega) ?_))
      intro v' w5 hrow hgr
      obtain ⟨S0, h1, h2, h3⟩ := H.out.final (by rw [List.length_append]; exact hrow) hgr
      obtain ⟨a9, c9, rfl⟩ := own_sl hrow
      have HF := Lib.hid (And.intro h1 (And.intro h2 h3))
      clear hrow hgr h1 h2 h3 hown hq
      go_wp2_with fail
      go_ret2
      exact ⟨_, S0, rfl, HF.out⟩
    | cons c t =>
      have hem := cons_isEmpty c t
      have hix := idx0 c t
      have hlen : t.length ≤ 8191 := by have := H.out.l1; simp at this; omega
      have hsl := sl_one c t (by omega)
      by_cases c92 : c = 92
      · subst c92
        obtain ⟨t', rfl, hok'⟩ := okF_n H.out.ok
        obtain ⟨m', l', hrd', hlr⟩ := pieces_esc H.out.rd
        have hes := escape_n (w := wr) (t := t') H.out.prow H.out.bel.size (by have := H.out.l2; omega) (by simp at hlen; omega)
        have HR := Lib.hid (And.intro hok' (And.intro hrd' hlr))
        clear hok' hrd' hlr
        go_wp2_with (go_at_call 151; refine hes.mono ?_; rintro e w2 ⟨pv2, rfl, hP2⟩; obtain ⟨a3, n3, c3, rfl⟩ := row_sl hP2.1; have H2 := Lib.hid (H.out.grow HR.out.2.2 HR.out.2.1 HR.out.1 hP2 (by simp; omega)); clear hP2 hes)
        exact ⟨⟨t', P, pl ++ [10], l', m', S, vs, rfl, ⟨_, _, _, rfl⟩, ⟨_, _, _, rfl⟩, H2⟩, by show (bz t').size < (bz (92 :: 110 :: t')).size; rw [bz_size, bz_size]; simp; omega⟩
      · have e92 : ((c.toNat : Int) == 92) = false := toNat_ne c92
        by_cases c37 : c = 37
        · subst c37
          have hpp := has_pp 37 t (.inr (okF_p H.out.ok)) wr
          obtain ⟨m', l', x, r', hcv, hrd', hlr, hx0⟩ := pieces_conv H.out.rd (okF_p H.out.ok)
          have hxo : OkPc x := (H.out.cv x (by rw [hlr]; simp)).resolve_left hx0
          have hrc := readConv_c hcv hxo (by omega) wr
          have hcl := conv_le hcv hxo
          have hok' : okF r' = true := okF_conv hcv hxo (okF_tail H.out.ok)
          have HR := Lib.hid (And.intro hlr (And.intro hx0 (And.intro hrd' (And.intro hok' hcl))))
          have hvl : vs.length ≤ 8192 := by have := H.out.l1; rw [H.out.vl]; omega
          have hbs := H.out.bel.size
          have has := fun u => as_c (.slice a2 n2 c2) u ⟨_, _, _, rfl⟩
          have hfe := part_eql
          clear hcv hlr hx0 hrd' hok' hcl hxo
          go_wp2_with (first
            | (go_at_call 152; refine hpp.mono ?_; rintro e w' ⟨rfl, hw'⟩; rw [hw']; clear hw' hpp)
            | (go_at_call 153; refine hrc.mono ?_; rintro e w2 ⟨v2, S1, rfl, ⟨f2, y2, z2, rfl⟩, hp2, hS1, hB2⟩; have hs2 := hB2.size; have hown : ((w2.alloc (.cells #[.slice a2 n2 c2] 27)).alloc (.cells #[.func (.func 188) #[] #[ptr w2.heap.size], .func f2 y2 z2] 254)).ownsRow w.heap.size 254 1 (.slice a1 n1 c1) vs.length vs := ((own_bel H.out.row hB2).alloc _).alloc _; have hq := q_new2 w2 (.slice a2 n2 c2) (.func f2 y2 z2); have H2 := Lib.hid (And.intro hp2 (And.intro hS1 hB2)); clear hp2 hS1 hB2 hrc)
            | (go_at_call 154; refine (has _).mono ?_; rintro e w3 ⟨rfl, hw3⟩; rw [hw3]; clear hw3)
            | (at_builtin; refine wpList_parts rfl _ _ rfl w.heap.size _ vs rfl hown _ [.func (.func 188) #[] #[ptr w2.heap.size], .func f2 y2 z2] rfl hq (fun u hu => (by simp only [List.mem_cons, List.not_mem_nil, or_false] at hu; rcases hu with rfl | rfl <;> rfl)) (by simp; omega) (by simp; omega) ?_))
          intro v' w5 hrow hgr
          obtain ⟨S', hS'⟩ := H.out.conv HR.out.1 HR.out.2.1 HR.out.2.2.1 HR.out.2.2.2.1 H2.out.2.2 ⟨_, _, _, rfl⟩ H2.out.1 H2.out.2.1 (by rw [List.length_append]; exact hrow) hgr (by have := HR.out.2.2.2.2; simp; omega)
          obtain ⟨a9, c9, rfl⟩ := own_sl hrow
          have HN := Lib.hid hS'
          clear hrow hgr hS' hown hq
          go_wp2_with fail
          exact ⟨⟨r', _, [], l', m', S', _, rfl, ⟨_, _, _, rfl⟩, ⟨_, _, _, rfl⟩, HN⟩, by have := HR.out.2.2.2.2; show (bz r').size < (bz (37 :: t)).size; rw [bz_size, bz_size]; simp; omega⟩
        · have e37 : ((c.toNat : Int) == 37) = false := toNat_ne c37
          have hpp := has_pp c t (.inl c37) wr
          obtain ⟨m', l', hrd', hlr⟩ := pieces_byte H.out.rd c92 c37
          have HR := Lib.hid (And.intro hrd' (And.intro hlr (okF_tail H.out.ok)))
          have hr0 : Row (wr.drew.alloc (.cells #[.int .u8 (c.toNat : Int)] 5)) w.heap.size (.slice a2 n2 c2) pl := by
            rcases H.out.prow.2 with hn | ⟨g, cap, cur, e, hb, hg, q⟩
            · exact ⟨H.out.prow.1, .inl hn⟩
            · exact ⟨H.out.prow.1, .inr ⟨g, cap, cur, e, hb, al_old2 _ hg, q⟩⟩
          have hbn := row_byte wr.drew c
          have hbs := bs_byte wr.drew (c.toNat : Int)
          have hpl : pl.length ≤ 8192 := by have := H.out.l2; omega
          have hsz : w.heap.size ≤ (wr.drew.alloc (.cells #[.int .u8 (c.toNat : Int)] 5)).heap.size := by have := H.out.bel.size; simp; omega
          clear hrd' hlr c92 c37
          go_upto_region 5 with (go_at_call 152; refine hpp.mono ?_; rintro e w' ⟨rfl, hw'⟩; rw [hw']; clear hw' hpp)
          refine wp_region_tail 7 (fun _ => True) (by kernel_rfl) trivial (fun hHeld => ?_)
          repeat
            first
              | (refine wpAnyT_take (i := 0) (v := ?_) 9 rfl (by decide +kernel) (fun _ _ _ h => h) (Or.inl ⟨by rfl, fun u hu => ?_⟩) (by assumption) ?_; rotate_left; focus ((try dsimp only at hu); go_simp; try with_reducible rfl))
              | (refine wpAnyT_take (i := 1) (v := ?_) 9 rfl (by decide +kernel) (fun _ _ _ h => h) (Or.inl ⟨by rfl, fun u hu => ?_⟩) (by assumption) ?_; rotate_left; focus ((try dsimp only at hu); go_simp; try with_reducible rfl))
              | (refine wpAnyT_take (i := 4) (v := ?_) 9 rfl (by decide +kernel) (fun _ _ _ h => h) (Or.inl ⟨by rfl, fun u hu => ?_⟩) (by assumption) ?_; rotate_left; focus ((try dsimp only at hu); go_simp; try with_reducible rfl))
              | (refine wpAnyT_take (i := 5) (v := ?_) 9 rfl (by decide +kernel) (fun _ _ _ h => h) (Or.inl ⟨by rfl, fun u hu => ?_⟩) (by assumption) ?_; rotate_left; focus ((try dsimp only at hu); go_simp; try with_reducible rfl))
            simp only [Act.put, List.setIfInBounds_toArray, List.set_cons_zero, List.set_cons_succ]
          refine wpAnyT_one (i := 2) rfl (by kernel_rfl) (fun K hK => ?_)
          refine step_build1 rfl _ _ rfl (by first | rfl | (simp [Act.eval]; rfl)) hbs ?_
          refine hK.out _ _ (fun _ => trivial) ?_
          clear hK K
          simp only [Act.put, List.setIfInBounds_toArray, List.set_cons_zero, List.set_cons_succ]
          refine wpAnyT_one (i := 3) rfl (by kernel_rfl) (fun K hK => ?_)
          refine step_row rfl _ _ rfl w.heap.size (.slice a2 n2 c2) pl (by simp [Act.eval]) hr0 (.slice (some ⟨wr.heap.size, 0, none⟩) 1 1) [c] (by simp [Act.eval]) hbn (by simp; omega) hsz ?_
          intro v' w2 hr2 hgr hsn
          have H2 := Lib.hid (H.out.grow HR.out.2.1 HR.out.1 HR.out.2.2 (plain_out hr2 hgr hsn) (by simp; omega))
          obtain ⟨a3, n3, c3, rfl⟩ := row_sl hr2
          clear hr2 hgr hsn
          refine hK.out _ _ (fun _ => trivial) ?_
          clear hK K
          simp only [Act.put, List.setIfInBounds_toArray, List.set_cons_zero, List.set_cons_succ]
          refine wpAnyT_one (i := 6) rfl (by kernel_rfl) (fun K hK => ?_)
          go_simp
          refine hK.out _ _ (fun _ => trivial) ?_
          clear hK K
          refine wpAnyT_one (i := 7) rfl (by kernel_rfl) (fun K hK => ?_)
          go_simp
          refine hK.out _ _ (fun _ => trivial) ?_
          clear hK K
          refine wpAnyT_done (by kernel_rfl) ?_ _
          go_wp2_with fail
          exact ⟨⟨t, P, pl ++ [c], l', m', S, vs, rfl, ⟨_, _, _, rfl⟩, ⟨_, _, _, rfl⟩, H2⟩, by show (bz t).size < (bz (c :: t)).size; rw [bz_size, bz_size]; simp⟩
end Go.Proofs.YteimilnecahifaaGreatDoor.Nm
