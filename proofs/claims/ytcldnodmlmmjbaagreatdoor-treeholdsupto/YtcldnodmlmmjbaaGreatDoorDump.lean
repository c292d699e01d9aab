/- The contract of Dump at a tree with the root alone. -/
import Derived.RangeFuncNested
import Derived.RangeFuncBox
import Derived.Sort.MapsRangeIn
import Derived.Test.YtcldnodmlmmjbaaGreatDoorSort
import Derived.Test.YtcldnodmlmmjbaaGreatDoorLead
namespace Go.Proofs.YtcldnodmlmmjbaaGreatDoor
open Go.RowKit Go.Shelf Go.Maps

attribute [local go_sem] Oper.semAt_some ptr

theorem below_c (b : Nat) (s : ByteArray) (w : World) : Calls Tryz.prog 47 #[.pointer (some ⟨b, 0, none⟩), .string s] w fun e w' => e = .returned (.func (.func 88) #[] #[.pointer (some ⟨w.heap.size, 0, none⟩), .pointer (some ⟨w.heap.size + 1, 0, none⟩)]) ∧ w' = (w.alloc (.cells #[.pointer (some ⟨b, 0, none⟩)] 77)).alloc (.cells #[.string s] 9) := by
  go_enter Tryz.func47, Tryz.ntmps47
  go_wp2
  go_ret
  exact ⟨rfl, rfl⟩

theorem empty_map {w : World} {b N k : Nat} (h : w.ownsMap Tryz.prog k R b N (.map [])) : ∃ clock, w.heap[b]? = some (.map #[] clock) := by
  obtain ⟨es, clock, hb, _, _, hD⟩ := h
  have : ((es.toList.map (WideElems.rg Tryz.prog k R)).foldr DataW.insert []).length = 0 := by
    injection hD with hD; rw [← hD]; rfl
  rw [length_sorted] at this
  have hz : es.size = 0 := by simpa using this
  obtain rfl : es = #[] := Array.eq_empty_of_size_eq_zero hz
  exact ⟨clock, hb⟩

set_option maxRecDepth 100000 in
set_option maxHeartbeats 2000000 in
theorem visit_none (b mb c : Nat) (s : ByteArray) (l : Nat) (x : Nd) (w : World) (hn : NdAt w b x) (he : x.ents = .map (some mb)) (hm : w.heap[mb]? = some (.map #[] c)) (n : Nat) :
    CallsIn Fence.wide n Tryz.prog 89 #[.pointer (some ⟨b, 0, none⟩), .string s, .func (.yield l) #[] #[]] w fun e w' => e = .returned (.bool true) ∧ w.grownBy w' none := by
  have e5 := hn.c5
  rw [he] at e5
  have hrg := run_range_map (P := Tryz.prog) w 80 9 77 mb #[] c under80 hm
  have hnx : ∀ ty, (Instr.next (.pointer (some ⟨w.heap.size, 0, none⟩)) false ty).run Tryz.prog (w.alloc (.mapIter (some mb) c #[] c)) = .ok (.tuple #[.bool false]) (w.alloc (.mapIter (some mb) c #[] c)) := fun ty => by
    rcases run_next_at (P := Tryz.prog) (w.alloc (.mapIter (some mb) c #[] c)) ty w.heap.size mb c c #[] #[] c (al_new _ _ rfl) (al_old _ hm) (by simp) (Nat.le_refl _) with ⟨_, h⟩ | ⟨e, he, _⟩
    · exact h
    · simp [leftOf] at he
  refine callsIn_of_wp Tryz.func89 rfl trivial ?_ rfl
  simp only [Tryz.ntmps89, List.size_toArray, List.length_cons, List.length_nil, Nat.reduceAdd, Nat.reduceSub, Array.replicate_succ, Array.replicate_zero, List.push_toArray, List.append_toArray, List.nil_append, List.cons_append]
  gi_wp2
  gi_loopw [15] (fun _ wr => wr = w.alloc (.mapIter (some mb) c #[] c)) (fun _ _ => 0)
  case atStart => exact rfl
  case round =>
    subst hrel
    gi_wp2
    go_ret
    exact ⟨rfl, World.grownBy_alloc _ _ none⟩

set_option maxRecDepth 100000 in
set_option maxHeartbeats 2000000 in
theorem below1_none (b mb c : Nat) (s : ByteArray) (x : Nd) (B1 B2 : Nat) (w : World) (hn : NdAt w b x) (he : x.ents = .map (some mb)) (hm : w.heap[mb]? = some (.map #[] c)) (h1 : w.heap[B1]? = some (.cells #[.pointer (some ⟨b, 0, none⟩)] 77)) (h2 : w.heap[B2]? = some (.cells #[.string s] 9)) (n : Nat) (hn1 : 1 ≤ n) :
    SeqStopsK Fence.wide n Tryz.prog 88 #[.pointer (some ⟨B1, 0, none⟩), .pointer (some ⟨B2, 0, none⟩)] (fun _ : Unit => #[.string ⟨#[]⟩, .pointer none]) (fun _ _ => True) (fun ys => ys = []) (fun _ => False) 0 w := by
  intro l J Jx W hW hJ hJx hY h0
  have hn' := hn.below hW hn.lt
  have hm' : W.heap[mb]? = some (.map #[] c) := (hW.block mb (Array.getElem?_eq_some_iff.1 hm).1).trans hm
  have h1' := (hW.block B1 (Array.getElem?_eq_some_iff.1 h1).1).trans h1
  have h2' := (hW.block B2 (Array.getElem?_eq_some_iff.1 h2).1).trans h2
  have k1 : W.cell? ⟨B1, 0, none⟩ = some (.pointer (some ⟨b, 0, none⟩)) := by simp [World.cell?, h1']
  have k2 : W.cell? ⟨B2, 0, none⟩ = some (.string s) := by simp [World.cell?, h2']
  have hv := visit_none b mb c s l x W hn' he hm' (n - 1)
  clear hY hn' hm' h1' h2' hn hm h1 h2 hW
  refine callsIn_of_wp Tryz.func88 rfl trivial ?_ rfl
  simp only [Tryz.ntmps88, List.size_toArray, List.length_cons, List.length_nil, Nat.reduceAdd, Nat.reduceSub, Array.replicate_succ, Array.replicate_zero, List.push_toArray, List.append_toArray, List.nil_append, List.cons_append]
  gi_wp2_with (refine ⟨trivial, ?_⟩; gi_at_call 89; refine hv.mono ?_; rintro e w2 ⟨rfl, hg⟩)
  go_end0
  exact ⟨⟨_, rfl⟩, .inl ⟨[], rfl, hJ _ _ _ _ h0 hg (fun r e => by cases e)⟩⟩

def DumpI (n : Nat) (w : World) (_ : List Unit) (W : World) : Prop := W.heap[n]? = some (.cells #[.slice none 0 0] 22) ∧ Below n w W

set_option maxRecDepth 100000 in
set_option maxHeartbeats 4000000 in
theorem dump_in (t b mb N : Nat) (x : Nd) (fm nm la : Value) (w : World) (hT : TrAt w t (ptr b) fm nm la) (hn : NdAt w b x) (he : x.ents = .map (some mb)) (hm : w.ownsMap Tryz.prog 9 R mb N (.map [])) :
    CallsIn Fence.wide 9 Tryz.prog 12 #[.pointer (some ⟨t, 0, none⟩)] w fun e w' => e = .returned (.slice none 0 0) ∧ Below w.heap.size w w' := by
  obtain ⟨c, hmc⟩ := empty_map hm
  have hro : Fence.wide.round = none := rfl
  have hmm := @run_makeMap Tryz.prog
  have htl := hT.lt
  have t0 : ∀ o o' o'', (((w.alloc o).alloc o').alloc o'').cell? ⟨t, 0, none⟩ = some (.pointer (some ⟨b, 0, none⟩)) := fun o o' o'' => (show TrAt (((w.alloc o).alloc o').alloc o'') t (ptr b) fm nm la from al_old _ (al_old _ (al_old _ hT))).c0
  refine callsIn_of_wp_marks Tryz.func12 rfl trivial ?_ hro
  simp only [Tryz.ntmps12, List.size_toArray, List.length_cons, List.length_nil, Nat.reduceAdd, Nat.reduceSub, Array.replicate_succ, Array.replicate_zero, List.push_toArray, List.append_toArray, List.nil_append, List.cons_append]
  gi_wp2_with (refine ⟨trivial, ?_⟩; gi_at_call 47; refine (callsIn_wide.2 (below_c _ _ _)).mono ?_; rintro e w' ⟨rfl, rfl⟩)
  obtain ⟨w1, hw1⟩ : ∃ w1, w1 = ((((w.alloc (.cells #[.slice none 0 0] 22)).alloc (.map #[] 0)).alloc (.cells #[.map (some (w.heap.size + 1))] 73)).alloc (.cells #[.pointer (some ⟨b, 0, none⟩)] 77)).alloc (.cells #[.string ⟨#[]⟩] 9) := ⟨_, rfl⟩
  have hs1 : w1.heap.size = w.heap.size + 5 := by rw [hw1]; simp
  have hB0 : Below w.heap.size w w1 := by rw [hw1]; exact (((((Below.refl _ w).alloc (Nat.le_refl _) _).alloc (by simp) _).alloc (by simp; omega) _).alloc (by simp; omega) _).alloc (by simp; omega) _
  have e0 : w1.heap[w.heap.size]? = some (.cells #[.slice none 0 0] 22) := by rw [hw1]; exact al_old _ (al_old _ (al_old _ (al_old _ (al_new _ _ rfl))))
  have e3 : w1.heap[w.heap.size + 1 + 1 + 1]? = some (.cells #[.pointer (some ⟨b, 0, none⟩)] 77) := by rw [hw1]; exact al_old _ (al_new _ _ (by simp))
  have e4 : w1.heap[w.heap.size + 1 + 1 + 1 + 1]? = some (.cells #[.string ⟨#[]⟩] 9) := by rw [hw1]; exact al_new _ _ (by simp)
  have hn1 := hn.below hB0 hn.lt
  have hm1 : w1.heap[mb]? = some (.map #[] c) := (hB0.block mb hm.lt).trans hmc
  rw [← hw1]
  clear hw1
  refine wpIn_rangeFunc_ownG hro (by omega) (gf := 88) (lb := #[.pointer (some ⟨w.heap.size + 1 + 1 + 1, 0, none⟩), .pointer (some ⟨w.heap.size + 1 + 1 + 1 + 1, 0, none⟩)]) rfl trivial (enters_of Tryz.func88 (by kernel_rfl) rfl)
    (below1_none b mb c ⟨#[]⟩ x _ _ w1 hn1 he hm1 e3 e4 8 (by omega)) (fun _ _ => trivial) (fun _ _ _ _ _ _ _ _ => trivial) (Below.refl _ _) (fun _ => rfl)
    (DumpI w.heap.size w) (fun _ _ _ => False)
    (fun ys X Y row h hg hr => ⟨kept_at hg (n := w.heap.size + 5) (fun r e => by have := (hr r e).1; omega) (by omega) h.1, h.2.grown hg (by have := (Array.getElem?_eq_some_iff.1 h.1).1; omega) (fun k e => by have := (hr k e).1; omega)⟩) (fun _ _ _ _ _ h _ _ => h)
    ⟨e0, hB0⟩
    (fun _ => { tmps := #[.pointer (some ⟨t, 0, none⟩), undef, .slice none 0 0, .pointer (some ⟨w.heap.size, 0, none⟩), .pointer (some ⟨w.heap.size + 1 + 1, 0, none⟩), .string ⟨#[]⟩, .pointer none, undef, undef, undef, .map (some (w.heap.size + 1)), .pointer (some ⟨t, 0, none⟩), .pointer (some ⟨t, 0, none⟩), .pointer (some ⟨t, 0, none⟩), .pointer (some ⟨b, 0, none⟩), .func (.func 88) #[] #[.pointer (some ⟨w.heap.size + 1 + 1 + 1, 0, none⟩), .pointer (some ⟨w.heap.size + 1 + 1 + 1 + 1, 0, none⟩)], .string ⟨#[]⟩, .pointer none, undef, undef, undef, undef, undef, undef, undef, undef, undef, undef, undef, undef, undef, undef, undef, undef, undef, undef, undef, undef, undef, undef, undef, undef, undef, undef, undef, undef, undef, undef, undef, undef, undef, undef, undef, undef, undef, undef, undef, undef, undef, undef, undef, undef, undef, undef, undef, undef, undef, undef, undef, undef, undef, undef, undef, undef, undef, undef, undef, undef, undef, undef, undef, undef, undef], defers := [] }) ?assign ?body ?done ?stop
  case assign =>
    intro l x W K hK
    gi_wp2
    exact hK
  case body =>
    intro l pre x W _ hlt
    omega
  case stop =>
    intro D c pre W _ _ h _
    exact h.elim
  case done =>
    rintro D ys W hD hS ⟨h1, hB⟩ hK
    have c0 : W.cell? ⟨w.heap.size, 0, none⟩ = some (.slice none 0 0) := by simp [World.cell?, h1]
    have hlt : w.heap.size < W.heap.size := (Array.getElem?_eq_some_iff.1 h1).1
    gi_wp2_with (refine ⟨trivial, ?_⟩; gi_at_call 49; refine (callsIn_wide.2 (sort_none _ _)).mono ?_; rintro e w3 ⟨⟨v, rfl⟩, hw3⟩; rw [hw3])
    gi_loopw [51] (fun i wr => i = .int .i64 0 ∧ wr = W.alloc (.map #[] 0)) (fun _ _ => 0)
    case atStart => exact ⟨rfl, rfl⟩
    case round =>
      obtain ⟨rfl, rfl⟩ := hrel
      gi_wp2
      have hK2 : (W.alloc (.map #[] 0)).heap[D]? = some (.deferred (some [])) := al_old _ hK
      refine ⟨by simp, .inl ⟨_, _, rfl, run_takeDeferred hK2, ?_⟩⟩
      exact ⟨_, results_tmp rfl _ _ _, rfl, (hB.alloc (by omega) _).trans (belowK_b (w := w) (Nat.le_refl _) _ D _ _ (by omega) hK2 rfl rfl)⟩

theorem dump_none (t b mb N : Nat) (x : Nd) (fm nm la : Value) (w : World) (hT : TrAt w t (ptr b) fm nm la) (hn : NdAt w b x) (he : x.ents = .map (some mb)) (hm : w.ownsMap Tryz.prog 9 R mb N (.map [])) :
    Calls Tryz.prog 12 #[.pointer (some ⟨t, 0, none⟩)] w fun e w' => e = .returned (.slice none 0 0) ∧ Below w.heap.size w w' :=
  (callsIn_wide (n := 9)).1 (dump_in t b mb N x fm nm la w hT hn he hm)
end Go.Proofs.YtcldnodmlmmjbaaGreatDoor
