/- The walk of the second law, over what is asked of the program. -/
import Derived.Laws.Strings
import Derived.Lib.ConvBytes
import Derived.Test.YtgppaclfgekknaaOGMath
namespace Go.Proofs.Ytgppaclfgekknaa
open Go.RowKit

theorem conv_one (c : UInt8) (u : World) : (convert 33 9 (.slice (some ⟨u.heap.size, 0, none⟩) 1 1)).run Try.prog (u.alloc (.cells #[.int .u8 (c.toNat : Int)] 5)) = .ok (.string ⟨#[c]⟩) (u.alloc (.cells #[.int .u8 (c.toNat : Int)] 5)) := by
  refine run_convert_bytes_back (P := Try.prog) _ 33 9 5 ⟨u.heap.size, 0, none⟩ 1 [c] Try.underlying33 Try.underlying5 Try.underlying9 (fun j hj => ?_)
  have := cell_one_new u (.int .u8 (c.toNat : Int)) 5 j (.int .u8 (c.toNat : Int))
  obtain rfl : j = 0 := by simpa using hj
  simpa using this rfl
theorem cell_one2 (w : World) (A : Obj) (x : Value) (t : TypeId) : ∀ j u, [x][j]? = some u → ((w.alloc A).alloc (.cells #[x] t)).cell? ((⟨w.heap.size + 1, 0, none⟩ : Addr).add j) = some u := by
  have := cell_one_new (w.alloc A) x t
  simpa using this
theorem cell_two2 (w : World) (A : Obj) (x y : Value) (t : TypeId) : ∀ j u, [x, y][j]? = some u → ((w.alloc A).alloc (.cells #[x, y] t)).cell? ((⟨w.heap.size + 1, 0, none⟩ : Addr).add j) = some u := by
  have := cell_two_new (w.alloc A) x y t
  simpa using this
theorem dash_eq (c : UInt8) : (⟨#[45]⟩ ++ ⟨#[c]⟩ : ByteArray) = dash c := rfl
theorem own_two {W W' : World} {base base' e e' s s' n n' : Nat} {v v' : Value} {xs xs' : List Value} (h : W.ownsRow base e s v n xs) (h' : W.ownsRow base' e' s' v' n' xs') (he : e ≠ e') (hg : W.grownBy W' v'.ownBlock) : W'.ownsRow base e s v n xs := by
  refine h.kept hg ?_
  rcases h.2 with ⟨rfl, _⟩ | ⟨g, cap, cur, rfl, _, hgg, _⟩
  · exact .inl rfl
  · refine .inr fun e2 => ?_
    rcases h'.2 with ⟨rfl, _⟩ | ⟨g', cap', cur', rfl, _, hgg', _⟩
    · cases e2
    · have : g = g' := by simpa [Value.ownBlock] using e2
      subst this
      rw [hgg] at hgg'; cases hgg'; exact he rfl

theorem strs_lt {w : World} {b off n c : Nat} {ss : List ByteArray} (h : StrsAt w (.slice (some ⟨b, off, none⟩) n c) ss) : b < w.heap.size := by
  rcases h with ⟨h, _⟩ | ⟨b', off', cap, h, _, h3, _⟩
  · cases h
  · cases h; exact h3
theorem run_append_none (ty : TypeId) (b : Option Addr) (n cap : Nat) (h : n ≤ cap) (w : World) : (Builtin.append_ #[22, 22] ty #[.slice b n cap, .slice none 0 0]).run Try.prog w = .ok (.slice b n cap) w := by
  have z := Try.sizeOf9
  cases b with
  | none => simp [Builtin.append_, go_sem, z, Builtin.lenOf, Builtin.firstCells, h]
  | some a => simp [Builtin.append_, go_sem, z, Builtin.lenOf, Builtin.firstCells, h, storeCells]
/-- Strings onto strings of one's own. -/
theorem wpList_append_strs {w : World} {ops : Array Oper} {rest : List Oper} {o : Oper} {a : Act} {Q : Exit → Act → World → Prop} (hgd : o.guard = none) (s x : Operand)
    (ho : o.op = .call { callee := .builtin .append, args := #[s, x], argTypes := #[22, 22] }) (base : Nat) (v : Value) (n : Nat) (xs : List Value) (hs : a.eval s = v) (hown : w.ownsRow base 9 1 v n xs)
    (vo : Value) (l : List ByteArray) (hx : a.eval x = vo) (hl : StrsAt w vo l) (hb1 : n + l.length ≤ 2097152) (hbase : base ≤ w.heap.size)
    (h : ∀ v' w', w'.ownsRow base 9 1 v' (n + l.length) (xs ++ l.map .string) → w.grownBy w' v.ownBlock → wpList Try.prog ops Q rest (a.put o.dst v') w') : wpList Try.prog ops Q (o :: rest) a w := by
  obtain ⟨j0, ji, jz0, jz1, jz2⟩ := info_parts2 info_str
  rcases hl with ⟨rfl, rfl⟩ | ⟨b, off, cap, rfl, hcap, hb, hc⟩
  · refine wpList_plain hgd fun _ hK => ?_
    have hsl : ∃ b cap, v = .slice b n cap ∧ n ≤ cap := by
      rcases hown.2 with ⟨rfl, rfl⟩ | ⟨g, cap, cur, rfl, _, _, hle, _⟩
      · exact ⟨none, 0, rfl, Nat.le_refl _⟩
      · exact ⟨_, cap, rfl, hle⟩
    obtain ⟨b, cap, rfl, hle⟩ := hsl
    unfold Oper.wp execOp
    simp only [ho, resolve, invoke, builtin, Sem.run_bind, Sem.run_pure, Result.andThen_ok, List.map_toArray, List.map_cons, List.map_nil, hs, hx, run_append_none _ b n cap hle w]
    exact hK _ _ (h _ w (by simpa using hown) ⟨rfl, rfl, rfl, Nat.le_refl _, fun _ _ _ => rfl⟩)
  · exact wpList_append_own w hgd s x 22 ho base 9 j0 (.string ⟨#[]⟩) 1 16 Try.underlying22 ji jz0 jz1 jz2 rfl (by decide) v n xs hs hown ⟨b, off, none⟩ l.length cap (l.map .string) hx (by rw [List.length_map, Nat.mul_one]) (strs_news hc rfl) (strs_one l) (by unfold maxLen; omega) (by omega) hbase (fun v' w' h1 h2 _ => h v' w' h1 h2)
theorem own_new2 (w : World) (x y : Value) (base : Nat) (hb : base ≤ w.heap.size) : (w.alloc (.cells #[x, y] 9)).ownsRow base 9 1 (.slice (some ⟨w.heap.size, 0, none⟩) 2 2) 2 [x, y] := by
  refine ⟨rfl, .inr ⟨w.heap.size, 2, #[x, y], rfl, hb, by show (w.heap.push _)[w.heap.size]? = _; simp, Nat.le_refl _, by decide, rfl, rfl⟩⟩
theorem own_far {W0 W W' : World} {B base' e e' s s' n n' : Nat} {v v' : Value} {xs xs' : List Value} (h : W.ownsRow B e s v n xs) (h' : W0.ownsRow base' e' s' v' n' xs') (hB : W0.heap.size ≤ B) (hg : W.grownBy W' v'.ownBlock) : W'.ownsRow B e s v n xs := by
  refine h.kept hg ?_
  rcases h.2 with ⟨rfl, _⟩ | ⟨g, cap, cur, rfl, hb, _, _⟩
  · exact .inl rfl
  · refine .inr fun e2 => ?_
    rcases h'.2 with ⟨rfl, _⟩ | ⟨g', cap', cur', rfl, _, hgg', _⟩
    · cases e2
    · have : g = g' := by simpa [Value.ownBlock] using e2
      have := (Array.getElem?_eq_some_iff.1 hgg').1
      omega
theorem rest_grown {W W' : World} {base base' s' n' : Nat} {v v' : Value} {o : List ByteArray} {xs' : List Value} (h : RestAt W base v o) (h' : W.ownsRow base' 35 s' v' n' xs') (hg : W.grownBy W' v'.ownBlock) : StrsAt W' v o := by
  rcases h.2 with rfl | h2
  · rcases h.1 with h1 | ⟨b, off, cap, h1, h2, h3, _⟩
    · exact .inl h1
    · exact .inr ⟨b, off, cap, h1, h2, Nat.lt_of_lt_of_le h3 hg.size, fun j hj => by simp at hj⟩
  · exact strs_own (own_two h2 h' (by decide) hg)
/-- Between two letters. -/
structure Lp (w wr : World) (args : List ByteArray) (apv wnv : Value) (gv : ByteArray) (k n : Nat) (ap : List ByteArray) (g : List UInt8) (wn : Opts) : Prop where
  b : Built args ap g wn n
  k : wn.length ≤ k
  g : gv.data.toList = 45 :: g
  a : wr.ownsRow w.heap.size 9 1 apv ap.length (ap.map .string)
  o : OptsAt wr w.heap.size wnv wn
  bl : Below w.heap.size w wr

set_option maxHeartbeats 4000000 in
set_option maxRecDepth 100000 in
theorem groups_c (S : Says) (letters : ByteArray) (va vo : Value) (args ops : List ByteArray) (w : World) (hbd : letters.size + tot args + args.length + tot ops + ops.length ≤ 1048576) (hA : StrsAt w va args) (hO : StrsAt w vo ops) :
    Calls Try.prog 4 #[.string letters, va, vo] w fun e w' => e = .returned (.bool true) ∧ Below w.heap.size w w' := by
  obtain ⟨i0, hi, hz0, hz1, hz2⟩ := info_parts2 info_opt
  obtain ⟨j0, ji, jz0, jz1, jz2⟩ := info_parts2 info_str
  obtain ⟨xa, ca, rfl⟩ := ptr_some hA
  obtain ⟨xo, co, rfl⟩ := ptr_some hO
  have HA := Lib.hid hA
  have HO := Lib.hid hO
  have HW := Lib.hid (awake_c S)
  have HS := Lib.hid S
  have HB := Lib.hid hbd
  have hl1 : letters.size ≤ 1048576 := by omega
  have hl2 : args.length ≤ 1048576 := by omega
  have hl3 : ops.length ≤ 1048576 := by omega
  clear S hA hO hbd
  generalize hna : args.length = na at *
  generalize hno : ops.length = no at *
  have HNA := Lib.hid hna
  have HNO := Lib.hid hno
  clear hna hno
  by_cases h500 : letters.size ≤ 500 ∧ na ≤ 500 ∧ no ≤ 500
  · obtain ⟨g1, g2, g3⟩ := h500
    go_enter Try.func4, Try.ntmps4
    go_wp2_with (go_at_call 5; refine (HW.out _).mono ?_; rintro e w1 ⟨rfl, hb1⟩)
    go_loopw [8, 9, 10, 11, 12] (fun apv gs wnv nn i wr => ∃ (k n : Nat) (gv : ByteArray), k ≤ letters.size ∧ i = .int .i64 k ∧ nn = .int .i64 n ∧ gs = .string gv ∧ Hid (∃ ap g wn, Lp w wr args apv wnv gv k n ap g wn)) (fun _ _ _ _ i _ => letters.size - (intOf i).toNat)
    case atStart => exact ⟨0, 0, _, by omega, rfl, rfl, rfl, [], [], [], .nil _, by simp, rfl, World.ownsRow_nil _ _ _ _, World.ownsRow_nil _ _ _ _, hb1⟩
    case round =>
      obtain ⟨k, n, gv, hk, rfl, rfl, rfl, HL⟩ := hrel
      clear hb1
      obtain ⟨ap, g, wn, hL⟩ := HL.out
      have hsz := hL.b.size
      have hk1 := hL.k
      have hgs : gv.size ≤ 501 := by have e : gv.data.toList.length = gv.size := rfl; rw [hL.g] at e; simp at e; omega
      have HL := Lib.hid hL
      clear hL
      by_cases hlt : k < letters.size
      · have hcv := conv_one letters[k]
        by_cases hc : IsAbc letters[k]
        · have HC := Lib.hid hc
          rcases hc with h | h | h
          · have b1 : ((letters[k].toNat : Int) == 97) = true := by rw [h]; rfl
            clear h
            go_wp2_with (first
              | (at_builtin; refine wpList_append_own _ rfl _ _ 22 rfl w.heap.size 9 j0 (.string ⟨#[]⟩) 1 16 Try.underlying22 ji jz0 jz1 jz2 rfl (by decide) _ _ _ rfl ((HL.out.a.alloc _).alloc _) ⟨wr.heap.size + 1, 0, none⟩ 1 1 [.string (dash letters[k])] rfl rfl (cell_one2 _ _ _ _) (by simp [Value.oneCell']) (by unfold maxLen; omega) (by omega) (by have := HL.out.bl.size; simp; omega) ?_; intro v2 w2 hown2 hgrow2 _)
              | (at_builtin; refine wpList_append_own _ rfl _ _ 24 rfl w.heap.size 35 i0 (.agg #[.int .u8 0, .string ⟨#[]⟩]) 2 24 Try.underlying24 hi hz0 hz1 hz2 rfl (by decide) _ _ _ rfl (((own_two ((HL.out.o.alloc _).alloc _) ((HL.out.a.alloc _).alloc _) (by decide) hgrow2).alloc _).alloc _) ⟨w2.heap.size + 1, 0, none⟩ 1 1 [.int .u8 (letters[k].toNat : Int), .string ⟨#[]⟩] rfl rfl (cell_two2 _ _ _ _ _) (by simp [Value.oneCell']) (by unfold maxLen; omega) (by omega) (by have := HL.out.bl.size; have := hgrow2.size; simp at *; omega) ?_; intro v3 w3 hown3 hgrow3 _))
            have hbw2 : Below w.heap.size w w2 := ((HL.out.bl.alloc HL.out.bl.size _).alloc (by have := HL.out.bl.size; simp; omega) _).grown hgrow2 (by have := HL.out.bl.size; simp; omega) (fun j ej => own_ge2 HL.out.a j ej)
            have ho2 := own_two ((HL.out.o.alloc _).alloc _) ((HL.out.a.alloc _).alloc _) (by decide) hgrow2
            have hbw3 : Below w.heap.size w w3 := ((hbw2.alloc hbw2.size _).alloc (by have := hbw2.size; simp; omega) _).grown hgrow3 (by have := hbw2.size; simp; omega) (fun j ej => own_ge2 HL.out.o j ej)
            have ha3 := own_two ((hown2.alloc _).alloc _) ((ho2.alloc _).alloc _) (by decide) hgrow3
            exact ⟨⟨k + 1, n, _, by omega, by go_num, rfl, rfl, ap ++ [dash letters[k]], g ++ [letters[k]], wn ++ [(letters[k], ⟨#[]⟩)], .alone _ HC.out HL.out.b, by rw [List.length_append]; simp; omega, by rw [ByteArray.data_append, Array.toList_append, HL.out.g]; rfl, by rw [List.length_append, List.map_append]; exact ha3, opts_snoc hown3, hbw3⟩, by simp [intOf]; omega⟩
          · have b1 : ((letters[k].toNat : Int) == 97) = false := by rw [h]; rfl
            have b2 : ((letters[k].toNat : Int) == 98) = true := by rw [h]; rfl
            clear h
            go_wp2_with (first
              | (at_builtin; refine wpList_append_own _ rfl _ _ 22 rfl w.heap.size 9 j0 (.string ⟨#[]⟩) 1 16 Try.underlying22 ji jz0 jz1 jz2 rfl (by decide) _ _ _ rfl ((HL.out.a.alloc _).alloc _) ⟨wr.heap.size + 1, 0, none⟩ 1 1 [.string (dash letters[k])] rfl rfl (cell_one2 _ _ _ _) (by simp [Value.oneCell']) (by unfold maxLen; omega) (by omega) (by have := HL.out.bl.size; simp; omega) ?_; intro v2 w2 hown2 hgrow2 _)
              | (at_builtin; refine wpList_append_own _ rfl _ _ 24 rfl w.heap.size 35 i0 (.agg #[.int .u8 0, .string ⟨#[]⟩]) 2 24 Try.underlying24 hi hz0 hz1 hz2 rfl (by decide) _ _ _ rfl (((own_two ((HL.out.o.alloc _).alloc _) ((HL.out.a.alloc _).alloc _) (by decide) hgrow2).alloc _).alloc _) ⟨w2.heap.size + 1, 0, none⟩ 1 1 [.int .u8 (letters[k].toNat : Int), .string ⟨#[]⟩] rfl rfl (cell_two2 _ _ _ _ _) (by simp [Value.oneCell']) (by unfold maxLen; omega) (by omega) (by have := HL.out.bl.size; have := hgrow2.size; simp at *; omega) ?_; intro v3 w3 hown3 hgrow3 _))
            have hbw2 : Below w.heap.size w w2 := ((HL.out.bl.alloc HL.out.bl.size _).alloc (by have := HL.out.bl.size; simp; omega) _).grown hgrow2 (by have := HL.out.bl.size; simp; omega) (fun j ej => own_ge2 HL.out.a j ej)
            have ho2 := own_two ((HL.out.o.alloc _).alloc _) ((HL.out.a.alloc _).alloc _) (by decide) hgrow2
            have hbw3 : Below w.heap.size w w3 := ((hbw2.alloc hbw2.size _).alloc (by have := hbw2.size; simp; omega) _).grown hgrow3 (by have := hbw2.size; simp; omega) (fun j ej => own_ge2 HL.out.o j ej)
            have ha3 := own_two ((hown2.alloc _).alloc _) ((ho2.alloc _).alloc _) (by decide) hgrow3
            exact ⟨⟨k + 1, n, _, by omega, by go_num, rfl, rfl, ap ++ [dash letters[k]], g ++ [letters[k]], wn ++ [(letters[k], ⟨#[]⟩)], .alone _ HC.out HL.out.b, by rw [List.length_append]; simp; omega, by rw [ByteArray.data_append, Array.toList_append, HL.out.g]; rfl, by rw [List.length_append, List.map_append]; exact ha3, opts_snoc hown3, hbw3⟩, by simp [intOf]; omega⟩
          · have b1 : ((letters[k].toNat : Int) == 97) = false := by rw [h]; rfl
            have b2 : ((letters[k].toNat : Int) == 98) = false := by rw [h]; rfl
            have b3 : ((letters[k].toNat : Int) == 99) = true := by rw [h]; rfl
            clear h
            go_wp2_with (first
              | (at_builtin; refine wpList_append_own _ rfl _ _ 22 rfl w.heap.size 9 j0 (.string ⟨#[]⟩) 1 16 Try.underlying22 ji jz0 jz1 jz2 rfl (by decide) _ _ _ rfl ((HL.out.a.alloc _).alloc _) ⟨wr.heap.size + 1, 0, none⟩ 1 1 [.string (dash letters[k])] rfl rfl (cell_one2 _ _ _ _) (by simp [Value.oneCell']) (by unfold maxLen; omega) (by omega) (by have := HL.out.bl.size; simp; omega) ?_; intro v2 w2 hown2 hgrow2 _)
              | (at_builtin; refine wpList_append_own _ rfl _ _ 24 rfl w.heap.size 35 i0 (.agg #[.int .u8 0, .string ⟨#[]⟩]) 2 24 Try.underlying24 hi hz0 hz1 hz2 rfl (by decide) _ _ _ rfl (((own_two ((HL.out.o.alloc _).alloc _) ((HL.out.a.alloc _).alloc _) (by decide) hgrow2).alloc _).alloc _) ⟨w2.heap.size + 1, 0, none⟩ 1 1 [.int .u8 (letters[k].toNat : Int), .string ⟨#[]⟩] rfl rfl (cell_two2 _ _ _ _ _) (by simp [Value.oneCell']) (by unfold maxLen; omega) (by omega) (by have := HL.out.bl.size; have := hgrow2.size; simp at *; omega) ?_; intro v3 w3 hown3 hgrow3 _))
            have hbw2 : Below w.heap.size w w2 := ((HL.out.bl.alloc HL.out.bl.size _).alloc (by have := HL.out.bl.size; simp; omega) _).grown hgrow2 (by have := HL.out.bl.size; simp; omega) (fun j ej => own_ge2 HL.out.a j ej)
            have ho2 := own_two ((HL.out.o.alloc _).alloc _) ((HL.out.a.alloc _).alloc _) (by decide) hgrow2
            have hbw3 : Below w.heap.size w w3 := ((hbw2.alloc hbw2.size _).alloc (by have := hbw2.size; simp; omega) _).grown hgrow3 (by have := hbw2.size; simp; omega) (fun j ej => own_ge2 HL.out.o j ej)
            have ha3 := own_two ((hown2.alloc _).alloc _) ((ho2.alloc _).alloc _) (by decide) hgrow3
            exact ⟨⟨k + 1, n, _, by omega, by go_num, rfl, rfl, ap ++ [dash letters[k]], g ++ [letters[k]], wn ++ [(letters[k], ⟨#[]⟩)], .alone _ HC.out HL.out.b, by rw [List.length_append]; simp; omega, by rw [ByteArray.data_append, Array.toList_append, HL.out.g]; rfl, by rw [List.length_append, List.map_append]; exact ha3, opts_snoc hown3, hbw3⟩, by simp [intOf]; omega⟩
        · have b1 : ((letters[k].toNat : Int) == 97) = false := u8_no 97 (by omega) (fun e => hc (.inl e))
          have b2 : ((letters[k].toNat : Int) == 98) = false := u8_no 98 (by omega) (fun e => hc (.inr (.inl e)))
          have b3 : ((letters[k].toNat : Int) == 99) = false := u8_no 99 (by omega) (fun e => hc (.inr (.inr e)))
          clear hc
          by_cases hc : letters[k] = 110 ∨ letters[k] = 109
          · have HC := Lib.hid hc
            by_cases hn : n < na
            · obtain ⟨ba, oa, rfl, hca⟩ := strs_at HA.out (by rw [HNA.out]; omega)
              have hba := strs_lt HA.out
              have HCA : Hid (∀ j, j < na → w.cell? ⟨ba, oa + j, none⟩ = some (.string (nth args j))) := fun j hj => hca j (by rw [HNA.out]; exact hj)
              have c0 : wr.cell? ⟨ba, oa + n, none⟩ = some (.string (nth args n)) := (HL.out.bl.cell (p := ⟨ba, oa + n, none⟩) hba).trans (HCA.out n hn)
              have c1 : (wr.alloc (.cells #[.int .u8 (letters[k].toNat : Int)] 5)).cell? ⟨ba, oa + n, none⟩ = some (.string (nth args n)) := ((HL.out.bl.alloc HL.out.bl.size _).cell (p := ⟨ba, oa + n, none⟩) hba).trans (HCA.out n hn)
              have hnI : (n : Int) < (na : Int) := by omega
              clear hca
              have hcv2 : (convert 33 9 (.slice (some ⟨wr.heap.size, 0, none⟩) 1 1)).run Try.prog (wr.alloc (.cells #[.int .u8 (letters[k].toNat : Int)] 5)).drew = .ok (.string ⟨#[letters[k]]⟩) (wr.alloc (.cells #[.int .u8 (letters[k].toNat : Int)] 5)).drew := conv_one letters[k] wr.drew
              rcases hc with h | h
              · skip
                have b4 : ((letters[k].toNat : Int) == 110) = true := by rw [h]; rfl
                clear h
                go_wp2_with fail
                go_region_law (refine step_append_lies _ rfl _ _ 22 rfl w.heap.size 9 j0 (.string ⟨#[]⟩) 1 16 Try.underlying22 ji jz0 jz1 jz2 rfl (by decide) _ ap.length (ap.map .string) (by simp [Act.eval]) (((show wr.drew.ownsRow _ _ _ _ _ _ from HL.out.a).alloc _).alloc _) ⟨wr.heap.size + 1, 0, none⟩ 2 2 [.string (dash letters[k]), .string (nth args n)] (by simp [Act.eval]) rfl (cell_two2 wr.drew _ _ _ _) (by simp [Value.oneCell']) (by decide) (by unfold maxLen; omega) (by omega) (by have := HL.out.bl.size; simp; omega) _ rfl ?_; intro g2 cap2 w2 hown2 hgrow2 hat hlt2)
                all_goals
                  try simp only [Act.put, List.getElem_toArray, List.getElem_cons_succ, List.getElem_cons_zero, List.setIfInBounds_toArray, List.set_cons_succ, List.set_cons_zero]
                  have hbw2 : Below w.heap.size w w2 := ((HL.out.bl.drew.alloc HL.out.bl.size _).alloc (by have := HL.out.bl.size; simp; omega) _).grown hgrow2 (by have := HL.out.bl.size; simp; omega) (fun j ej => own_ge2 HL.out.a j ej)
                  have ho2 := own_two (((show wr.drew.ownsRow _ _ _ _ _ _ from HL.out.o).alloc _).alloc _) (((show wr.drew.ownsRow _ _ _ _ _ _ from HL.out.a).alloc _).alloc _) (by decide) hgrow2
                  have d0 : w2.cell? ⟨ba, oa + n, none⟩ = some (.string (nth args n)) := (hbw2.cell (p := ⟨ba, oa + n, none⟩) hba).trans (HCA.out n hn)
                  go_wp2_with (at_builtin; refine wpList_append_own _ rfl _ _ 24 rfl w.heap.size 35 i0 (.agg #[.int .u8 0, .string ⟨#[]⟩]) 2 24 Try.underlying24 hi hz0 hz1 hz2 rfl (by decide) _ _ _ rfl (ho2.alloc _) ⟨w2.heap.size, 0, none⟩ 1 1 [.int .u8 (letters[k].toNat : Int), .string (nth args n)] rfl rfl (cell_two_new _ _ _ _) (by simp [Value.oneCell']) (by unfold maxLen; omega) (by omega) (by have := hbw2.size; simp; omega) ?_; intro v3 w3 hown3 hgrow3 _)
                  have hbw3 : Below w.heap.size w w3 := (hbw2.alloc hbw2.size _).grown hgrow3 (by have := hbw2.size; simp; omega) (fun j ej => own_ge2 HL.out.o j ej)
                  have ha3 := own_two (hown2.alloc _) (ho2.alloc _) (by decide) hgrow3
                  exact ⟨⟨k + 1, n + 1, _, by omega, by go_num, by go_num, rfl, ap ++ [dash letters[k], nth args n], g, wn ++ [(letters[k], nth args n)], .arg _ HC.out (by rw [HNA.out]; exact hn) HL.out.b, by rw [List.length_append]; simp; omega, HL.out.g, by rw [List.length_append, List.map_append]; exact ha3, opts_snoc hown3, hbw3⟩, by simp [intOf]; omega⟩
              · skip
                have b4 : ((letters[k].toNat : Int) == 110) = false := by rw [h]; rfl
                have b5 : ((letters[k].toNat : Int) == 109) = true := by rw [h]; rfl
                clear h
                go_wp2_with fail
                go_region_law (refine step_append_lies _ rfl _ _ 22 rfl w.heap.size 9 j0 (.string ⟨#[]⟩) 1 16 Try.underlying22 ji jz0 jz1 jz2 rfl (by decide) _ ap.length (ap.map .string) (by simp [Act.eval]) (((show wr.drew.ownsRow _ _ _ _ _ _ from HL.out.a).alloc _).alloc _) ⟨wr.heap.size + 1, 0, none⟩ 2 2 [.string (dash letters[k]), .string (nth args n)] (by simp [Act.eval]) rfl (cell_two2 wr.drew _ _ _ _) (by simp [Value.oneCell']) (by decide) (by unfold maxLen; omega) (by omega) (by have := HL.out.bl.size; simp; omega) _ rfl ?_; intro g2 cap2 w2 hown2 hgrow2 hat hlt2)
                all_goals
                  try simp only [Act.put, List.getElem_toArray, List.getElem_cons_succ, List.getElem_cons_zero, List.setIfInBounds_toArray, List.set_cons_succ, List.set_cons_zero]
                  have hbw2 : Below w.heap.size w w2 := ((HL.out.bl.drew.alloc HL.out.bl.size _).alloc (by have := HL.out.bl.size; simp; omega) _).grown hgrow2 (by have := HL.out.bl.size; simp; omega) (fun j ej => own_ge2 HL.out.a j ej)
                  have ho2 := own_two (((show wr.drew.ownsRow _ _ _ _ _ _ from HL.out.o).alloc _).alloc _) (((show wr.drew.ownsRow _ _ _ _ _ _ from HL.out.a).alloc _).alloc _) (by decide) hgrow2
                  have d0 : w2.cell? ⟨ba, oa + n, none⟩ = some (.string (nth args n)) := (hbw2.cell (p := ⟨ba, oa + n, none⟩) hba).trans (HCA.out n hn)
                  go_wp2_with (at_builtin; refine wpList_append_own _ rfl _ _ 24 rfl w.heap.size 35 i0 (.agg #[.int .u8 0, .string ⟨#[]⟩]) 2 24 Try.underlying24 hi hz0 hz1 hz2 rfl (by decide) _ _ _ rfl (ho2.alloc _) ⟨w2.heap.size, 0, none⟩ 1 1 [.int .u8 (letters[k].toNat : Int), .string (nth args n)] rfl rfl (cell_two_new _ _ _ _) (by simp [Value.oneCell']) (by unfold maxLen; omega) (by omega) (by have := hbw2.size; simp; omega) ?_; intro v3 w3 hown3 hgrow3 _)
                  have hbw3 : Below w.heap.size w w3 := (hbw2.alloc hbw2.size _).grown hgrow3 (by have := hbw2.size; simp; omega) (fun j ej => own_ge2 HL.out.o j ej)
                  have ha3 := own_two (hown2.alloc _) (ho2.alloc _) (by decide) hgrow3
                  exact ⟨⟨k + 1, n + 1, _, by omega, by go_num, by go_num, rfl, ap ++ [dash letters[k], nth args n], g, wn ++ [(letters[k], nth args n)], .arg _ HC.out (by rw [HNA.out]; exact hn) HL.out.b, by rw [List.length_append]; simp; omega, HL.out.g, by rw [List.length_append, List.map_append]; exact ha3, opts_snoc hown3, hbw3⟩, by simp [intOf]; omega⟩
            · have hnI : ¬ ((n : Int) < (na : Int)) := by omega
              rcases hc with h | h
              · have b4 : ((letters[k].toNat : Int) == 110) = true := by rw [h]; rfl
                clear h
                go_wp2
                exact ⟨⟨k + 1, n, gv, by omega, by go_num, rfl, rfl, ap, g, wn, HL.out.b, by have := HL.out.k; omega, HL.out.g, HL.out.a, HL.out.o, HL.out.bl⟩, by simp [intOf]; omega⟩
              · have b4 : ((letters[k].toNat : Int) == 110) = false := by rw [h]; rfl
                have b5 : ((letters[k].toNat : Int) == 109) = true := by rw [h]; rfl
                clear h
                go_wp2
                exact ⟨⟨k + 1, n, gv, by omega, by go_num, rfl, rfl, ap, g, wn, HL.out.b, by have := HL.out.k; omega, HL.out.g, HL.out.a, HL.out.o, HL.out.bl⟩, by simp [intOf]; omega⟩
          · have b4 : ((letters[k].toNat : Int) == 110) = false := u8_no 110 (by omega) (fun e => hc (.inl e))
            have b5 : ((letters[k].toNat : Int) == 109) = false := u8_no 109 (by omega) (fun e => hc (.inr e))
            clear hc
            go_wp2
            exact ⟨⟨k + 1, n, gv, by omega, by go_num, rfl, rfl, ap, g, wn, HL.out.b, by have := HL.out.k; omega, HL.out.g, HL.out.a, HL.out.o, HL.out.bl⟩, by simp [intOf]; omega⟩
      · have hkI : ¬ ((k : Int) < (letters.size : Int)) := by omega
        have hta := tot_take_le args n
        have HBB := HB.out
        have hwn : wn.length ≤ 2097152 := by omega
        have hopl : ops.length ≤ 2097152 := by rw [HNO.out]; omega
        have htd : tot [dashes] = 2 := rfl
        have e1 : (ap ++ [dashes] ++ ops).length = ap.length + 1 + ops.length := by simp; omega
        have e2 : tot (ap ++ [dashes] ++ ops) ≤ 2097152 := by rw [tot_append, tot_append, htd]; omega
        have hnog := HNO.out
        go_wp2_with (first
          | (at_builtin; refine wpList_append_own _ rfl _ _ 22 rfl w.heap.size 9 j0 (.string ⟨#[]⟩) 1 16 Try.underlying22 ji jz0 jz1 jz2 rfl (by decide) _ _ _ rfl (HL.out.a.alloc _) ⟨wr.heap.size, 0, none⟩ 1 1 [.string dashes] rfl rfl (cell_one_new _ _ _) (by simp [Value.oneCell']) (by unfold maxLen; omega) (by omega) (by have := HL.out.bl.size; simp; omega) ?_; intro v2 w2 hown2 hgrow2 _; have hbw2 : Below w.heap.size w w2 := (HL.out.bl.alloc HL.out.bl.size _).grown hgrow2 (by have := HL.out.bl.size; simp; omega) (fun j ej => own_ge2 HL.out.a j ej))
          | (at_builtin; refine wpList_append_strs rfl _ _ rfl w.heap.size _ _ _ rfl hown2 (.slice xo no co) ops rfl (HO.out.below hbw2) (by omega) hbw2.size ?_; intro v3 w3 hown3 hgrow3))
        have hbw3 : Below w.heap.size w w3 := hbw2.grown hgrow3 hbw2.size (fun j ej => own_ge2 hown2 j ej)
        have ho3 := own_two (own_two (HL.out.o.alloc _) (HL.out.a.alloc _) (by decide) hgrow2) hown2 (by decide) hgrow3
        have hp := HS.out.parse v3 (ap ++ [dashes] ++ ops) spec7 w3 (by decide) e2 (by rw [e1]; omega) (strs_own (by rw [e1, List.map_append, List.map_append]; exact hown3))
        rw [parse_apart HL.out.b] at hp
        unfold ToldC at hp
        simp only [codeOf, optsOf, restOf] at hp
        clear hown3 hown2 hgrow2 hgrow3 e1 e2 hbw2
        refine hp.mono ?_
        rintro e w4 ⟨⟨la, ra, rfl, hoa, hra⟩, hb4⟩
        have hbw4 : Below w.heap.size w w4 := hbw3.trans (hb4.mono hbw3.size)
        have ho4 := own_below ho3 hb4
        have hsm := same_yes _ _ la _ ra _ wn ops w4 hwn hopl hoa ho4 hra.1 (HO.out.below hbw4)
        clear hp ho3 hbw3 hb4 hoa hra
        go_wp2_with fail
        refine hsm.mono ?_
        rintro e w5 ⟨rfl, m5, hw5⟩
        have hbw5 : Below w.heap.size w w5 := by rw [hw5]; exact below_drewN2 hbw4 m5
        have HO5 : Hid (w5.ownsRow w.heap.size 35 2 u10 wn.length (optCells wn)) := by rw [hw5]; exact ho4
        clear hsm hw5 ho4 hbw4
        by_cases hn0 : n = 0
        · subst hn0
          have hwz := HL.out.b.zero rfl
          have habc := HL.out.b.abc
          have hgg := HL.out.g
          have hgsz : gv.size = g.length + 1 := by have e : gv.data.toList.length = gv.size := rfl; rw [hgg] at e; simpa using e.symm
          by_cases hg1 : gv.size = 1
          · go_wp2
            go_ret
            exact ⟨rfl, hbw5⟩
          · have hgI : ((gv.size : Int) == 1) = false := by simp; omega
            have hgne : g ≠ [] := fun e => hg1 (by rw [hgsz, e]; rfl)
            have e3 : (gv :: dashes :: ops).length = 2 + ops.length := by simp; omega
            have e4 : tot (gv :: dashes :: ops) ≤ 2097152 := by rw [tot_cons, tot_cons, show dashes.size = 2 from rfl]; omega
            go_wp2_with (at_builtin; refine wpList_append_strs rfl _ _ rfl w.heap.size _ _ _ rfl (own_new2 w5 (.string gv) (.string dashes) w.heap.size hbw5.size) (.slice xo no co) ops rfl (HO.out.below (hbw5.alloc hbw5.size _)) (by omega) (by have := hbw5.size; simp; omega) ?_; intro v6 w6 hown6 hgrow6)
            have hbw6 : Below w.heap.size w w6 := (hbw5.alloc hbw5.size _).grown hgrow6 (by have := hbw5.size; simp; omega) (fun j ej => own_ge2 (own_new2 w5 (.string gv) (.string dashes) w.heap.size hbw5.size) j ej)
            have ho6 := own_two (HO5.out.alloc _) (own_new2 w5 (.string gv) (.string dashes) w.heap.size hbw5.size) (by decide) hgrow6
            have hp := HS.out.parse v6 (gv :: dashes :: ops) spec7 w6 (by decide) e4 (by rw [e3]; omega) (strs_own (by rw [e3]; exact hown6))
            rw [parse_group hgg hgne habc] at hp
            unfold ToldC at hp
            simp only [codeOf, optsOf, restOf] at hp
            rw [← hwz] at hp
            clear hown6 hgrow6 e3 e4
            refine hp.mono ?_
            rintro e w7 ⟨⟨ld, rd, rfl, hod, hrd⟩, hb7⟩
            have hbw7 : Below w.heap.size w w7 := hbw6.trans (hb7.mono hbw6.size)
            have ho7 := own_below ho6 hb7
            have hsm := same_yes _ _ ld _ rd _ wn ops w7 hwn hopl hod ho7 hrd.1 (HO.out.below hbw7)
            clear hp ho6 hbw6 hb7 hod hrd
            go_wp2_with fail
            refine hsm.mono ?_
            rintro e w8 ⟨rfl, m8, hw8⟩
            have hbw8 : Below w.heap.size w w8 := by rw [hw8]; exact below_drewN2 hbw7 m8
            have HO8 : Hid (w8.ownsRow w.heap.size 35 2 u10 wn.length (optCells wn)) := by rw [hw8]; exact ho7
            clear hsm hw8 ho7 hbw7 HO5
            by_cases hna : na = 0
            · have hnaI : ((na : Int) == 0) = true := by simp [hna]
              go_wp2
              go_ret
              exact ⟨rfl, hbw8⟩
            · have hnaI : ((na : Int) == 0) = false := by simp [hna]
              obtain ⟨ba, oa, rfl, hca⟩ := strs_at HA.out (by rw [HNA.out]; omega)
              have hba := strs_lt HA.out
              have c0 : w8.cell? ⟨ba, oa, none⟩ = some (.string (nth args 0)) := (hbw8.cell (p := ⟨ba, oa, none⟩) hba).trans (hca 0 (by rw [HNA.out]; omega))
              have c9 : w.cell? ⟨ba, oa, none⟩ = some (.string (nth args 0)) := hca 0 (by rw [HNA.out]; omega)
              have hs0 : (nth args 0).size ≤ tot args := nth_tot args 0 (by rw [HNA.out]; omega)
              generalize nth args 0 = s0 at c0 c9 hs0
              clear hca
              by_cases hse : s0.size = 0
              · have q1 : s0.toList.isEmpty = true := by rw [ByteArray.toList_eq, List.isEmpty_iff, ← List.length_eq_zero_iff]; exact hse
                have q2 : (s0.toList == []) = true := by rw [List.isEmpty_iff] at q1; rw [q1]; rfl
                go_wp2
                go_ret
                exact ⟨rfl, hbw8⟩
              · have q0 : s0.toList ≠ [] := by rw [ByteArray.toList_eq]; intro h'; exact hse (congrArg List.length h')
                have q1 : s0.toList.isEmpty = false := by rw [List.isEmpty_eq_false_iff]; exact q0
                have q2 : (s0.toList == []) = false := by rw [beq_eq_false_iff_ne]; exact q0
                clear q0
                have hsb : s0.size ≤ 1048576 := by omega
                have hg3 : (gv ++ (⟨#[110]⟩ : ByteArray) ++ s0).data.toList = 45 :: (g ++ 110 :: s0.data.toList) := by rw [ByteArray.data_append, ByteArray.data_append, Array.toList_append, Array.toList_append, hgg]; simp
                have hz3 : (gv ++ (⟨#[110]⟩ : ByteArray) ++ s0).size = gv.size + 1 + s0.size := by rw [ByteArray.size_append, ByteArray.size_append]; rfl
                have e5 : ((gv ++ (⟨#[110]⟩ : ByteArray) ++ s0) :: dashes :: ops).length = 2 + ops.length := by simp; omega
                have e6 : tot ((gv ++ (⟨#[110]⟩ : ByteArray) ++ s0) :: dashes :: ops) ≤ 2097152 := by rw [tot_cons, tot_cons, show dashes.size = 2 from rfl, hz3]; omega
                have HH3 := Lib.hid hg3
                have HH4 := Lib.hid e5
                have HH5 := Lib.hid e6
                clear hg3 hz3 e5 e6
                go_wp2_with (at_builtin; refine wpList_append_strs rfl _ _ rfl w.heap.size _ _ _ rfl (own_new2 w8 (.string (gv ++ (⟨#[110]⟩ : ByteArray) ++ s0)) (.string dashes) w.heap.size hbw8.size) (.slice xo no co) ops rfl (HO.out.below (hbw8.alloc hbw8.size _)) (by omega) (by have := hbw8.size; simp; omega) ?_; intro v9 w9 hown9 hgrow9)
                have hbw9 : Below w.heap.size w w9 := (hbw8.alloc hbw8.size _).grown hgrow9 (by have := hbw8.size; simp; omega) (fun j ej => own_ge2 (own_new2 w8 (.string (gv ++ (⟨#[110]⟩ : ByteArray) ++ s0)) (.string dashes) w.heap.size hbw8.size) j ej)
                have ho9 := own_two (HO8.out.alloc _) (own_new2 w8 (.string (gv ++ (⟨#[110]⟩ : ByteArray) ++ s0)) (.string dashes) w.heap.size hbw8.size) (by decide) hgrow9
                have hp := HS.out.parse v9 _ spec7 w9 (by decide) HH5.out (by rw [HH4.out]; omega) (strs_own (by rw [HH4.out]; exact hown9))
                rw [parse_group_arg HH3.out hse hgne habc] at hp
                unfold ToldC at hp
                simp only [codeOf, optsOf, restOf] at hp
                rw [← hwz] at hp
                clear hown9 hgrow9
                refine hp.mono ?_
                rintro e w10 ⟨⟨lh, rh, rfl, hoh, hrh⟩, hb10⟩
                have hbw10 : Below w.heap.size w w10 := hbw9.trans (hb10.mono hbw9.size)
                have ho10 := own_below ho9 hb10
                have c10 : w10.cell? ⟨ba, oa, none⟩ = some (.string s0) := (hbw10.cell (p := ⟨ba, oa, none⟩) hba).trans c9
                have c11 : (w10.alloc (.cells #[.int .u8 110, .string s0] 35)).cell? ⟨ba, oa, none⟩ = some (.string s0) := ((hbw10.alloc hbw10.size _).cell (p := ⟨ba, oa, none⟩) hba).trans c9
                have S11 : Hid (∀ v11 w11, w11.ownsRow w.heap.size 35 2 v11 (wn.length + 1) (optCells wn ++ [.int .u8 110, .string s0]) → (w10.alloc (.cells #[.int .u8 110, .string s0] 35)).grownBy w11 u10.ownBlock → Calls Try.prog 8 #[lh, v11, rh, .slice xo no co] w11 (fun e w' => e = .returned (.bool true) ∧ Below w.heap.size w w')) := by
                  intro v11 w11 h11 hgr
                  have hbw11 : Below w.heap.size w w11 := (hbw10.alloc hbw10.size _).grown hgr (by have := hbw10.size; simp; omega) (fun j ej => own_ge2 ho10 j ej)
                  refine (same_yes _ _ lh v11 rh _ (wn ++ [(110, s0)]) ops w11 (by rw [List.length_append]; simp; omega) hopl (own_far (hoh.alloc _) ho9 (Nat.le_refl _) hgr) (opts_snoc (c := 110) h11) (rest_grown (hrh.below ((Below.refl _ _).alloc (Nat.le_refl _) _)) (ho10.alloc _) hgr) (HO.out.below hbw11)).mono ?_
                  rintro e w' ⟨rfl, m, hw⟩
                  exact ⟨rfl, by rw [hw]; exact below_drewN2 hbw11 m⟩
                have HO10 := Lib.hid ho10
                clear hp hb10 hoh hrh ho9 hbw9 HO8 ho10
                go_wp2_with (first
                  | (at_builtin; refine wpList_append_own _ rfl _ _ 24 rfl w.heap.size 35 i0 (.agg #[.int .u8 0, .string ⟨#[]⟩]) 2 24 Try.underlying24 hi hz0 hz1 hz2 rfl (by decide) _ _ _ rfl (HO10.out.alloc _) ⟨w10.heap.size, 0, none⟩ 1 1 [.int .u8 110, .string s0] rfl rfl (cell_two_new _ _ _ _) (by simp [Value.oneCell']) (by unfold maxLen; omega) (by omega) (by have := hbw10.size; simp; omega) ?_; intro v11 w11 hown11 hgrow11 _)
                  | (go_at_call 8; refine (S11.out v11 w11 hown11 hgrow11).mono ?_; rintro e w12 ⟨rfl, hbw12⟩))
                go_ret
                exact ⟨rfl, hbw12⟩
        · have hnI : (n : Int) > 0 := by omega
          go_wp2
          go_ret
          exact ⟨rfl, hbw5⟩
  · by_cases a1 : letters.size ≤ 500
    · by_cases a2 : na ≤ 500
      · have a3 : ¬ (no ≤ 500) := fun h => h500 ⟨a1, a2, h⟩
        clear h500
        go_enter Try.func4, Try.ntmps4
        go_wp2_with (go_at_call 5; refine (HW.out _).mono ?_; rintro e w1 ⟨rfl, hb1⟩)
        go_ret
        exact ⟨rfl, hb1⟩
      · clear h500
        go_enter Try.func4, Try.ntmps4
        go_wp2_with (go_at_call 5; refine (HW.out _).mono ?_; rintro e w1 ⟨rfl, hb1⟩)
        go_ret
        exact ⟨rfl, hb1⟩
    · clear h500
      go_enter Try.func4, Try.ntmps4
      go_wp2_with (go_at_call 5; refine (HW.out _).mono ?_; rintro e w1 ⟨rfl, hb1⟩)
      go_ret
      exact ⟨rfl, hb1⟩
end Go.Proofs.Ytgppaclfgekknaa
