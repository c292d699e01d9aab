/- A key's places, by the reference. -/
import Derived.Test.YtdgnbcbcfgfkmaaDoorQBased
import Derived.Test.YtdgnbcbcfgfkmaaDoorQByK
namespace Go.Proofs.YtdgnbcbcfgfkmaaDoor
open Go.RowKit

theorem ext_take (s : ByteArray) (n : Nat) : s.extract 0 n = ⟨(s.data.toList.take n).toArray⟩ := by
  apply ByteArray.ext
  rw [ByteArray.data_extract, ← Array.toList_inj, Array.toList_extract]
  simp
theorem ext_drop (s : ByteArray) (n : Nat) : s.extract n s.size = ⟨(s.data.toList.drop n).toArray⟩ := by
  apply ByteArray.ext
  rw [ByteArray.data_extract, ← Array.toList_inj, Array.toList_extract]
  simp only [List.extract]
  exact List.take_of_length_le (by rw [List.length_drop]; exact Nat.le_refl _)
theorem heap_al (w : World) (o : Obj) (k : Nat) : (w.alloc o).heap[k]? = if k = w.heap.size then some o else w.heap[k]? := by
  show (w.heap.push o)[k]? = _
  rw [Array.getElem?_push]
theorem two0 (w : World) (o o2 : Obj) : ((w.alloc o).alloc o2).heap[w.heap.size]? = some o := by
  rw [heap_al, if_neg (by simp), heap_al, if_pos rfl]
theorem two1 (w : World) (o o2 : Obj) : ((w.alloc o).alloc o2).heap[w.heap.size + 1]? = some o2 := by
  rw [heap_al, if_pos (by simp)]
/-- Of what was there nothing has turned but one block. -/
structure Tn (b : Nat) (w w' : World) : Prop where
  os : w'.os = w.os
  tape : w'.tape = w.tape
  output : w'.output = w.output
  size : w.heap.size ≤ w'.heap.size
  block : ∀ k, k < w.heap.size → k ≠ b → w'.heap[k]? = w.heap[k]?
theorem Tn.refl (b : Nat) (w : World) : Tn b w w := ⟨rfl, rfl, rfl, Nat.le_refl _, fun _ _ _ => rfl⟩
theorem Tn.trans {b : Nat} {u v w : World} (h : Tn b u v) (k : Tn b v w) : Tn b u w := ⟨k.os.trans h.os, k.tape.trans h.tape, k.output.trans h.output, Nat.le_trans h.size k.size, fun i hi hs => (k.block i (Nat.lt_of_lt_of_le hi h.size) hs).trans (h.block i hi hs)⟩
theorem Tn.below {b : Nat} {w w' : World} (h : Below w.heap.size w w') : Tn b w w' := ⟨h.os, h.tape, h.output, h.size, fun k hk _ => h.block k hk⟩
theorem Tn.set (w : World) (b i : Nat) (v : Value) : Tn b w (w.setCell ⟨b, i, none⟩ v) := ⟨rfl, rfl, rfl, by simp [World.setCell], fun k _ hn => Below.heap_setCell _ _ _ _ (fun e => hn e)⟩
theorem Tn.alloc {b : Nat} (w : World) (o : Obj) : Tn b w (w.alloc o) := Tn.below ((Below.refl _ w).alloc (Nat.le_refl _) o)
theorem Tn.drew {b : Nat} {u w : World} (h : Tn b u w) : Tn b u w.drew := ⟨h.os, h.tape, h.output, h.size, h.block⟩
/-- A new block turned is nothing turned. -/
theorem Tn.fresh {b : Nat} {w w' : World} (h : Tn b w w') (hb : w.heap.size ≤ b) : Below w.heap.size w w' := ⟨h.os, h.tape, h.output, h.size, fun k hk => h.block k hk (by omega)⟩
/-- A block that holds flags. -/
structure Mk (mk : Fg → Array Value) (off : Nat) : Prop where
  get : ∀ g i, i < 7 → (mk g)[off + i]? = g.cells[i]?
  set : ∀ g h i, i < 7 → h.cells = g.cells.set i (.bool true) → (mk g).setIfInBounds (off + i) (.bool true) = mk h
theorem fg_of {mk : Fg → Array Value} {off : Nat} (hm : Mk mk off) {w : World} {b T : Nat} {g : Fg} (h : w.heap[b]? = some (.cells (mk g) T)) : FgAt w b off g := fun i hi => ⟨by simp [World.cell?, h, hm.get g i hi], by simp [World.frozen?, h]⟩
theorem flag_m {mk : Fg → Array Value} {off : Nat} (hm : Mk mk off) (b T : Nat) (g : Fg) (c : UInt8) (second : Bool) (w : World) (h : w.heap[b]? = some (.cells (mk g) T)) :
    Calls Tryd.prog 23 #[.pointer (some ⟨b, off, none⟩), .int .u8 (c.toNat : Int), .bool second] w fun e w' => e = .returned (.bool (flagS g c second).isSome) ∧ w'.heap[b]? = some (.cells (mk ((flagS g c second).getD g)) T) ∧ Tn b w w' := by
  refine (flag_i b off g c second w (fg_of hm h)).mono ?_
  rcases flagS_idx g c second with ⟨h1, h2⟩ | ⟨k, i, h1, h2, hi, hk⟩
  · rw [h1, h2]
    rintro e w' ⟨rfl, rfl⟩
    exact ⟨rfl, h, Tn.refl _ _⟩
  · rw [h1, h2]
    rintro e w' ⟨rfl, rfl⟩
    refine ⟨rfl, ?_, Tn.set _ _ _ _⟩
    have hs : (w.setCell ⟨b, off + i, none⟩ (.bool true)).heap[b]? = some (.cells ((mk g).setIfInBounds (off + i) (.bool true)) T) := by simp [World.setCell, Array.getElem?_modify, h]
    rw [hs, hm.set g k i hi hk]
    rfl
theorem results_ctt {fn : Func} {p u v : Tmp} {ty : TypeId} (h : fn.results = #[.cell p ty, .tmp u, .tmp v]) (tmps : Array Value) (P : Program) (w : World) :
    (results fn tmps).run P w = ((asAddr (tmps.getD p undef)).run P w).andThen fun a w1 => ((loadVar ty a).run P w1).andThen fun x w2 => .ok (.tuple #[x, tmps.getD u undef, tmps.getD v undef]) w2 := by
  unfold results
  rw [h]
  simp [Result.andThen]
theorem info_pl : (Tryd.prog.info? 66).map (·.size) = some 2 := by kernel_rfl
theorem results_pl {fn : Func} {p u v : Tmp} (h : fn.results = #[.cell p 66, .tmp u, .tmp v]) {tmps : Array Value} {w : World} {b : Nat} {x0 x1 y z : Value} (hp : tmps.getD p undef = .pointer (some ⟨b, 0, none⟩)) (hg : w.heap[b]? = some (.cells #[x0, x1] 66)) (hy : tmps.getD u undef = y) (hz : tmps.getD v undef = z) :
    (results fn tmps).run Tryd.prog w = .ok (.tuple #[.agg #[x0, x1], y, z]) w := by
  rw [results_ctt h, hp, hy, hz]
  simp [asAddr, Result.andThen, run_loadVar_row w b 66 66 #[x0, x1] (0, 0) _ hg Tryd.underlying66 rfl info_pl]
/-- Where a place lies while it is read. -/
structure Pw (b T : Nat) (mk : Fg → Array Value) (w : World) (rb pb : Nat) (f c : Int) (g : Fg) (wx : World) : Prop where
  fl : wx.heap[b]? = some (.cells (mk g) T)
  rb_ : wx.heap[rb]? = some (.cells #[.int .i64 0, .int .i64 0] 66)
  pb_ : wx.heap[pb]? = some (.cells #[.int .i64 f, .int .i64 c] 66)
  tn : Tn b w wx
  lt : w.heap.size ≤ rb ∧ w.heap.size ≤ pb ∧ rb ≠ pb ∧ b < w.heap.size
theorem Pw.turn {b T : Nat} {mk : Fg → Array Value} {w : World} {rb pb : Nat} {f c : Int} {g g' : Fg} {wx wy : World} (h : Pw b T mk w rb pb f c g wx) (ht : Tn b wx wy) (hf : wy.heap[b]? = some (.cells (mk g') T)) : Pw b T mk w rb pb f c g' wy := by
  have h1 := (Array.getElem?_eq_some_iff.1 h.rb_).1
  have h2 := (Array.getElem?_eq_some_iff.1 h.pb_).1
  have hl := h.lt
  exact ⟨hf, (ht.block rb h1 (by omega)).trans h.rb_, (ht.block pb h2 (by omega)).trans h.pb_, h.tn.trans ht, h.lt⟩
section
variable {b T : Nat} {mk : Fg → Array Value} {w : World} {rb pb : Nat} {f c : Int} {g : Fg} {wx : World}
theorem Pw.p0 (h : Pw b T mk w rb pb f c g wx) : wx.cell? ⟨pb, 0, none⟩ = some (.int .i64 f) := by simp [World.cell?, h.pb_]
theorem Pw.p1 (h : Pw b T mk w rb pb f c g wx) : wx.cell? ⟨pb, 1, none⟩ = some (.int .i64 c) := by simp [World.cell?, h.pb_]
theorem Pw.o0 (h : Pw b T mk w rb pb f c g wx) : wx.cell? ⟨rb, 0, none⟩ = some (.int .i64 0) := by simp [World.cell?, h.rb_]
theorem Pw.o1 (h : Pw b T mk w rb pb f c g wx) : wx.cell? ⟨rb, 1, none⟩ = some (.int .i64 0) := by simp [World.cell?, h.rb_]
theorem Pw.z0 (h : Pw b T mk w rb pb f c g wx) : wx.frozen? ⟨rb, 0, none⟩ = false := by simp [World.frozen?, h.rb_]
theorem Pw.z1 (h : Pw b T mk w rb pb f c g wx) : wx.frozen? ⟨rb, 1, none⟩ = false := by simp [World.frozen?, h.rb_]
end
/-- The end: the place is told. -/
theorem Pw.told {b T : Nat} {mk : Fg → Array Value} {w : World} {rb pb : Nat} {f c : Int} {g : Fg} {wx : World} (h : Pw b T mk w rb pb f c g wx) : (((wx.setCell ⟨rb, 0, none⟩ (.int .i64 f)).setCell ⟨rb, 1, none⟩ (.int .i64 c)).heap[rb]? = some (.cells #[.int .i64 f, .int .i64 c] 66)) ∧ (((wx.setCell ⟨rb, 0, none⟩ (.int .i64 f)).setCell ⟨rb, 1, none⟩ (.int .i64 c)).heap[b]? = some (.cells (mk g) T)) ∧ Tn b w ((wx.setCell ⟨rb, 0, none⟩ (.int .i64 f)).setCell ⟨rb, 1, none⟩ (.int .i64 c)) := by
  have hl := h.lt
  refine ⟨?_, ?_, h.tn.os, h.tn.tape, h.tn.output, ?_, fun k hk hn => ?_⟩
  · simp [World.setCell, Array.getElem?_modify, h.rb_]
  · rw [Below.heap_setCell _ _ _ _ (show b ≠ rb by omega), Below.heap_setCell _ _ _ _ (show b ≠ rb by omega)]; exact h.fl
  · have := h.tn.size; simpa [World.setCell] using this
  · rw [Below.heap_setCell _ _ _ _ (show k ≠ rb by omega), Below.heap_setCell _ _ _ _ (show k ≠ rb by omega)]; exact h.tn.block k hk hn
/-- What place is answered. -/
def PlTold (b T : Nat) (mk : Fg → Array Value) (w : World) (r : Option (Int × Int × Nat × Fg)) (e : Ending) (w' : World) : Prop :=
  (match r with
   | none => ∃ f c n, e = .returned (.tuple #[.agg #[.int .i64 f, .int .i64 c], .int .i64 n, .bool false]) ∧ ∃ g', w'.heap[b]? = some (.cells (mk g') T)
   | some q => e = .returned (.tuple #[.agg #[.int .i64 q.1, .int .i64 q.2.1], .int .i64 (q.2.2.1 : Int), .bool true]) ∧ w'.heap[b]? = some (.cells (mk q.2.2.2) T)) ∧ Tn b w w'
theorem numT_le (l : List UInt8) : 0 ≤ (numT l).1 ∧ (numT l).1 ≤ 2147483647 := by
  have aux : ∀ (l : List UInt8) (n : Int), 0 ≤ n → n ≤ 2147483647 → 0 ≤ (rd 10 2147483647 l n).1 ∧ (rd 10 2147483647 l n).1 ≤ 2147483647 := by
    intro l
    induction l with
    | nil => intro n h1 h2; exact ⟨h1, h2⟩
    | cons c l ih =>
      intro n h1 h2
      rw [rd]
      split
      · exact ⟨by decide, by decide⟩
      · rename_i h
        exact ih _ (by omega) (by omega)
  unfold numT rdAll
  split
  · exact ⟨by decide, by decide⟩
  · exact aux l 0 (by decide) (by decide)
theorem lettersS_drop (second : Bool) (l : List UInt8) (k : Nat) (h : k < l.length) (g : Fg) : lettersS second (l.drop k) g = (flagS g l[k] second).bind (lettersS second (l.drop (k + 1))) := by
  rw [List.drop_eq_getElem_cons h, lettersS]

set_option maxHeartbeats 4000000 in
set_option maxRecDepth 100000 in
theorem place_c {mk : Fg → Array Value} {off : Nat} (hm : Mk mk off) (b T : Nat) (g : Fg) (s : ByteArray) (second : Bool) (w : World) (hs : s.size ≤ 2097152) (h : w.heap[b]? = some (.cells (mk g) T)) :
    Calls Tryd.prog 39 #[.string s, .pointer (some ⟨b, off, none⟩), .bool second] w fun e w' => PlTold b T mk w (placeS s.data.toList g second) e w' := by
  have hd1 := fun u => digits_c s u (by omega)
  have hn1 := fun u => refNumber_any ⟨(s.data.toList.take (dgs s.data.toList)).toArray⟩ 2147483647 u (by rw [arr_size, List.length_take]; unfold maxLen; have : s.data.toList.length = s.size := rfl; omega) (by decide) (by decide)
  have hds : dgs s.data.toList ≤ s.size := dgs_le _
  have hx1 := ext_take s (dgs s.data.toList)
  have hx2 := ext_drop s (dgs s.data.toList)
  have HM := Lib.hid (And.intro hm h)
  clear hm h
  obtain ⟨n1, hgn⟩ : ∃ n, dgs s.data.toList = n := ⟨_, rfl⟩
  rw [hgn] at hn1 hds hx1 hx2
  have hd1' : ∀ u, Calls Tryd.prog 56 #[.string s] u fun e w' => e = .returned (.int .i64 (n1 : Int)) ∧ w' = u := by rw [← hgn]; exact hd1
  have hn1e := Lib.hid hgn
  clear hgn hd1
  have hd1 := hd1'
  clear hd1'
  go_enter Tryd.func39, Tryd.ntmps39
  go_wp2_with fail
  refine (hd1 _).mono ?_
  rintro e w' ⟨rfl, hw'⟩
  rw [hw']
  clear hw' hd1
  go_wp2_with fail
  refine (hn1 _).mono ?_
  rintro e w' ⟨rfl, hw'⟩
  rw [hw']
  clear hw' hn1
  have hv := numT_le (s.data.toList.take n1)
  obtain ⟨r, hr⟩ : ∃ r, numT (s.data.toList.take n1) = r := ⟨_, rfl⟩
  have hr2 : rdAll 10 2147483647 (⟨(s.data.toList.take n1).toArray⟩ : ByteArray).data.toList = r := hr
  rw [hr2]
  rw [hr] at hv
  obtain ⟨v1, ok1⟩ := r
  simp only at hv
  have hbl : b < w.heap.size := (Array.getElem?_eq_some_iff.1 HM.out.2).1
  by_cases hbad : ok1 = false ∨ v1 < 1
  · have HN : Hid (placeS s.data.toList g second = none) := by
      show _ = _
      unfold placeS
      rw [hn1e.out, hr, if_pos hbad]
    cases ok1 with
    | false =>
      go_wp2_with fail
      refine bodyPost_ret (results_pl rfl rfl (two0 w _ _) rfl rfl) rfl ?_
      unfold PlTold
      rw [HN.out]
      exact ⟨⟨_, _, _, rfl, g, (Tn.alloc (b := w.heap.size + 9) w _ |>.trans (Tn.alloc _ _)).block b hbl (by omega) |>.trans HM.out.2⟩, (Tn.alloc w _).trans (Tn.alloc _ _)⟩
    | true =>
      have hv1 : v1 < 1 := by simpa using hbad
      go_wp2_with fail
      refine bodyPost_ret (results_pl rfl rfl (two0 w _ _) rfl rfl) rfl ?_
      unfold PlTold
      rw [HN.out]
      exact ⟨⟨_, _, _, rfl, g, (Tn.alloc (b := w.heap.size + 9) w _ |>.trans (Tn.alloc _ _)).block b hbl (by omega) |>.trans HM.out.2⟩, (Tn.alloc w _).trans (Tn.alloc _ _)⟩
  · have hok : ok1 = true := by cases ok1 with | true => rfl | false => exact absurd (.inl rfl) hbad
    subst hok
    have hv1 : ¬ v1 < 1 := fun h => hbad (.inr h)
    have hplT : placeS s.data.toList g second = placeT v1 (s.data.toList.drop n1) g second := by unfold placeS; rw [hn1e.out, hr, if_neg hbad]
    have hl1 : (s.data.toList.drop n1).length ≤ 2097152 := by rw [List.length_drop]; have : s.data.toList.length = s.size := rfl; omega
    clear hbad
    generalize s.data.toList.drop n1 = l1 at hplT hx2 hl1
    go_upto_region 7 with fail
    obtain ⟨W, hW⟩ : ∃ W, (w.alloc (.cells #[.int .i64 0, .int .i64 0] 66)).alloc (.cells #[.int .i64 v1, .int .i64 0] 66) = W := ⟨_, rfl⟩
    rw [hW]
    obtain ⟨RB, hRB⟩ : ∃ R, w.heap.size = R := ⟨_, rfl⟩
    obtain ⟨PB, hPB⟩ : ∃ R, w.heap.size + 1 = R := ⟨_, rfl⟩
    have HW : Hid (Pw b T mk w RB PB v1 0 g W) := by
      rw [← hW, ← hRB, ← hPB]
      refine ⟨(Tn.alloc (b := w.heap.size + 9) w _ |>.trans (Tn.alloc _ _)).block b hbl (by omega) |>.trans HM.out.2, two0 w _ _, two1 w _ _, (Tn.alloc w _).trans (Tn.alloc _ _), by omega, by omega, by omega, hbl⟩
    rw [hPB, hRB]
    clear hW hRB hPB
    go_cut [45] (fun v wx => v = .bool (decide (l1.head? = some 46)) ∧ wx = W)
    case first =>
      cases l1 with
      | nil =>
        go_wp2_with fail
        go_meet
        case rel => exact ⟨rfl, rfl⟩
      | cons y r =>
        have hsz : (⟨(y :: r).toArray⟩ : ByteArray).size = r.length + 1 := rfl
        have hix : (⟨(y :: r).toArray⟩ : ByteArray)[0]'(by rw [hsz]; omega) = y := rfl
        have hb46 : ((y.toNat : Int) == 46) = decide (y = 46) := u8_lit y 46 (by omega)
        go_wp2_with fail
        go_meet
        case rel => exact ⟨congrArg Value.bool (by first | (rw [hb46]; simp) | simp [← UInt8.toNat_inj]), rfl⟩
    case rest =>
      obtain ⟨rfl, rfl⟩ := hcut
      go_upto_if 45 with fail
      go_cut [0] (fun sv wx => ∃ (lt : List UInt8) (cc : Int), sv = .string ⟨lt.toArray⟩ ∧ lt.length ≤ 2097152 ∧ (0 ≤ cc ∧ cc ≤ 2147483647) ∧ Hid (placeS s.data.toList g second = (lettersS second lt g).map fun g' => (v1, cc, lt.length, g')) ∧ Hid (Pw b T mk w RB PB v1 cc g wx))
      case first =>
        by_cases hdot : l1.head? = some 46
        · have hdt : decide (l1.head? = some 46) = true := decide_eq_true hdot
          have hlen1 : 1 ≤ l1.length := by cases l1 with | nil => simp at hdot | cons y r => simp
          obtain ⟨l2, hl2⟩ : ∃ l, l1.drop 1 = l := ⟨_, rfl⟩
          have hl2n : l2.length ≤ 2097152 := by rw [← hl2, List.length_drop]; omega
          have hx3 : (⟨l1.toArray⟩ : ByteArray).extract 1 (⟨l1.toArray⟩ : ByteArray).size = ⟨l2.toArray⟩ := by rw [ext_drop, ← hl2]
          have hx3' : (⟨l1.toArray⟩ : ByteArray).extract 1 l1.length = ⟨l2.toArray⟩ := hx3
          have hs1 := arr_size l1
          have hs2 := arr_size l2
          have hdg : ∀ u, Calls Tryd.prog 56 #[.string ⟨l2.toArray⟩] u fun e w' => e = .returned (.int .i64 (dgs l2 : Int)) ∧ w' = u := fun u => digits_c ⟨l2.toArray⟩ u (by rw [hs2]; omega)
          have hd2 := dgs_le l2
          have hnm : ∀ u, Calls Tryd.prog 57 #[.string ⟨(l2.take (dgs l2)).toArray⟩, .int .i64 2147483647] u fun e w' => e = .returned (.tuple #[.int .i64 (numT (l2.take (dgs l2))).1, .bool (numT (l2.take (dgs l2))).2]) ∧ w' = u := fun u => refNumber_any ⟨(l2.take (dgs l2)).toArray⟩ 2147483647 u (by rw [arr_size, List.length_take]; unfold maxLen; omega) (by decide) (by decide)
          have HPT : Hid (placeS s.data.toList g second = if (numT (l2.take (dgs l2))).2 = false ∨ ((numT (l2.take (dgs l2))).1 < 1 ∧ second = false) then none else (lettersS second (l2.drop (dgs l2)) g).map fun g' => (v1, (numT (l2.take (dgs l2))).1, (l2.drop (dgs l2)).length, g')) := by
            show _ = _
            rw [hplT]; unfold placeT; rw [if_pos hdot]; simp only [hl2]
          have hv2 := numT_le (l2.take (dgs l2))
          have hx4 := ext_take ⟨l2.toArray⟩ (dgs l2)
          have hx5 : (⟨l2.toArray⟩ : ByteArray).extract (dgs l2) (⟨l2.toArray⟩ : ByteArray).size = ⟨(l2.drop (dgs l2)).toArray⟩ := ext_drop _ _
          have hx5' : (⟨l2.toArray⟩ : ByteArray).extract (dgs l2) l2.length = ⟨(l2.drop (dgs l2)).toArray⟩ := hx5
          have hx4' : (⟨l2.toArray⟩ : ByteArray).extract 0 (dgs l2) = ⟨(l2.take (dgs l2)).toArray⟩ := hx4
          generalize numT (l2.take (dgs l2)) = r2 at *
          obtain ⟨c2, ok2⟩ := r2
          simp only at hv2 hnm HPT
          have hlt3 : (l2.drop (dgs l2)).length ≤ 2097152 := by rw [List.length_drop]; omega
          generalize dgs l2 = n2 at *
          clear hl2 hx2 hplT hx4 hx1
          have p0 := HW.out.p0
          have p1 := HW.out.p1
          have o0 := HW.out.o0
          have o1 := HW.out.o1
          have z0 := HW.out.z0
          have z1 := HW.out.z1
          have y0 : wc.frozen? ⟨PB, 0, none⟩ = false := by simp [World.frozen?, HW.out.pb_]
          have y1 : wc.frozen? ⟨PB, 1, none⟩ = false := by simp [World.frozen?, HW.out.pb_]
          have hdgW := hdg wc
          have hnmW := hnm wc
          clear hdg hnm
          by_cases hbad : ok2 = false ∨ (c2 < 1 ∧ second = false)
          · rw [if_pos hbad] at HPT
            have hcs : ok2 = false ∨ (ok2 = true ∧ c2 < 1 ∧ second = false) := by
              cases ok2 with
              | false => exact .inl rfl
              | true => exact .inr ⟨rfl, hbad.resolve_left (by simp)⟩
            clear hbad
            rcases hcs with rfl | ⟨rfl, hc2, rfl⟩
            all_goals
              go_wp2_with (first
                | (go_at_call 56; refine hdgW.mono ?_; rintro e w' ⟨rfl, hw'⟩; rw [hw']; clear hw')
                | (go_at_call 57; refine hnmW.mono ?_; rintro e w' ⟨rfl, hw'⟩; rw [hw']; clear hw'))
              have hto := HW.out.told
              refine bodyPost_ret (results_pl rfl rfl hto.1 rfl rfl) rfl ?_
              unfold PlTold
              rw [HPT.out]
              exact ⟨⟨_, _, _, rfl, _, hto.2.1⟩, hto.2.2⟩
          · rw [if_neg hbad] at HPT
            have hok2 : ok2 = true := by cases ok2 with | true => rfl | false => exact absurd (.inl rfl) hbad
            subst hok2
            have hcs : ¬ c2 < 1 ∨ (c2 < 1 ∧ second = true) := by
              by_cases h1 : c2 < 1
              · refine .inr ⟨h1, ?_⟩
                cases second with
                | true => rfl
                | false => exact absurd (.inr ⟨h1, rfl⟩) hbad
              · exact .inl h1
            clear hbad
            have HW3 : Hid (Pw b T mk w RB PB v1 c2 g (wc.setCell ⟨PB, 1, none⟩ (.int .i64 c2))) := by
              have hl := HW.out.lt
              refine ⟨?_, ?_, ?_, ⟨HW.out.tn.os, HW.out.tn.tape, HW.out.tn.output, ?_, fun k hk hn => ?_⟩, hl⟩
              · rw [Below.heap_setCell _ _ _ _ (show b ≠ PB by omega)]; exact HW.out.fl
              · rw [Below.heap_setCell _ _ _ _ (show RB ≠ PB by omega)]; exact HW.out.rb_
              · simp [World.setCell, Array.getElem?_modify, HW.out.pb_]
              · have := HW.out.tn.size; simpa [World.setCell] using this
              · rw [Below.heap_setCell _ _ _ _ (show k ≠ PB by omega)]; exact HW.out.tn.block k hk hn
            rcases hcs with hc2 | ⟨hc2, rfl⟩
            all_goals
              go_wp2_with (first
                | (go_at_call 56; refine hdgW.mono ?_; rintro e w' ⟨rfl, hw'⟩; rw [hw']; clear hw')
                | (go_at_call 57; refine hnmW.mono ?_; rintro e w' ⟨rfl, hw'⟩; rw [hw']; clear hw'))
              go_meet
              case rel => exact ⟨l2.drop n2, c2, by first | rfl | rw [hx5'] | rw [hx5], hlt3, hv2, HPT, HW3⟩
        · have hdt : decide (l1.head? = some 46) = false := decide_eq_false hdot
          go_wp2_with fail
          go_meet
          case rel => exact ⟨l1, 0, rfl, hl1, by decide, by show _ = _; rw [hplT]; unfold placeT; rw [if_neg hdot], HW⟩
      case rest =>
        obtain ⟨lt, cc, rfl, hll, hcc, HPl, HW2⟩ := hcut
        clear HW hplT
        have HW := HW2
        clear HW2
        go_wp2_with fail
        go_loopw [15] (fun iv wr => ∃ (k : Nat) (g' : Fg), k ≤ lt.length ∧ iv = .int .i64 k ∧ Hid (lettersS second lt g = lettersS second (lt.drop k) g') ∧ Hid (Pw b T mk w RB PB v1 cc g' wr)) (fun iv _ => lt.length - (intOf iv).toNat)
        case atStart => exact ⟨0, g, by omega, rfl, (show _ = _ from rfl), HW⟩
        case round =>
          obtain ⟨k, g', hk, rfl, HL, HP⟩ := hrel
          clear HW
          have p0 : wr.cell? ⟨PB, 0, none⟩ = some (.int .i64 v1) := by simp [World.cell?, HP.out.pb_]
          have p1 : wr.cell? ⟨PB, 1, none⟩ = some (.int .i64 cc) := by simp [World.cell?, HP.out.pb_]
          have o0 : wr.cell? ⟨RB, 0, none⟩ = some (.int .i64 0) := by simp [World.cell?, HP.out.rb_]
          have o1 : wr.cell? ⟨RB, 1, none⟩ = some (.int .i64 0) := by simp [World.cell?, HP.out.rb_]
          have z0 : wr.frozen? ⟨RB, 0, none⟩ = false := by simp [World.frozen?, HP.out.rb_]
          have z1 : wr.frozen? ⟨RB, 1, none⟩ = false := by simp [World.frozen?, HP.out.rb_]
          have hls := arr_size lt
          by_cases hlt : k < lt.length
          · have hst := HL.out
            rw [lettersS_drop second lt k hlt] at hst
            have hfl := flag_m HM.out.1 b T g' lt[k] second wr HP.out.fl
            have hix : (⟨lt.toArray⟩ : ByteArray)[k]'(by rw [hls]; exact hlt) = lt[k] := rfl
            generalize lt[k] = y at hst hfl hix
            cases hfs : flagS g' y second with
            | none =>
              rw [hfs] at hst hfl
              simp only [Option.isSome_none, Option.getD_none] at hfl
              have HN : Hid (placeS s.data.toList g second = none) := by show _ = _; rw [HPl.out, hst]; rfl
              go_wp2_with (go_at_call 23; refine hfl.mono ?_; rintro e w2 ⟨rfl, hf2, ht2⟩; have HP2 := Lib.hid (HP.out.turn ht2 hf2); have p0 := HP2.out.p0; have p1 := HP2.out.p1; have o0 := HP2.out.o0; have o1 := HP2.out.o1; have z0 := HP2.out.z0; have z1 := HP2.out.z1; clear hf2 ht2)
              have hto := HP2.out.told
              refine bodyPost_ret (results_pl rfl rfl hto.1 rfl rfl) rfl ?_
              unfold PlTold
              rw [HN.out]
              exact ⟨⟨_, _, _, rfl, _, hto.2.1⟩, hto.2.2⟩
            | some g2 =>
              rw [hfs] at hst hfl
              simp only [Option.isSome_some, Option.getD_some] at hfl
              have HL2 : Hid (lettersS second lt g = lettersS second (lt.drop (k + 1)) g2) := hst
              go_wp2_with (go_at_call 23; refine hfl.mono ?_; rintro e w2 ⟨rfl, hf2, ht2⟩; have HP2 := Lib.hid (HP.out.turn ht2 hf2); clear hf2 ht2)
              exact ⟨⟨k + 1, g2, by omega, by go_num, HL2, HP2⟩, by simp [intOf]; omega⟩
          · have hst := HL.out
            rw [List.drop_eq_nil_of_le (by omega), lettersS] at hst
            have HN : Hid (placeS s.data.toList g second = some (v1, cc, lt.length, g')) := by show _ = _; rw [HPl.out, hst]; rfl
            go_wp2_with fail
            have hto := HP.out.told
            refine bodyPost_ret (results_pl rfl rfl hto.1 rfl rfl) rfl ?_
            unfold PlTold
            rw [HN.out]
            exact ⟨⟨rfl, hto.2.1⟩, hto.2.2⟩
end Go.Proofs.YtdgnbcbcfgfkmaaDoor
