/- tr: its loops. -/
import Derived.Test.YtfkoehfkiommpaaGreatDoorZTr1
namespace Go.Proofs.YtfkoehfkiommpaaGreatDoor
open Go.RowKit Go.Shelf Go.Maps
attribute [local go_sem] Oper.semAt_some

section
variable {E : Ev} {md : Option Bool} {w : World} {s : Sx} {M : List Nat} {tk buf : Nat} {lv ov : Value} {t : Tr.Tr}
/-- The fates, in memory. -/
abbrev faT (t : Tr.Tr) : Array Value := Tr.faA (Tr.becF t) (Tr.goneF t) (Tr.onceF t)
/-- What stands behind the reckoning of fates. -/
structure TrP (w : World) (tk fb : Nat) (t : Tr.Tr) (W : World) : Prop where
  below : Below w.heap.size w W
  fa : W.heap[fb]? = some (.cells (faT t) 241 (0, 0))
  box : W.heap[w.heap.size]? = some (.cells #[ptr tk] 235 (0, 0))
  lt : w.heap.size < fb
def TrR (w : World) (tk : Nat) (t : Tr.Tr) (lv ov : Value) (e : Exit) (a : Act) (W : World) : Prop :=
  match e with
  | .normal => ∃ fb, TrP w tk fb t W ∧ a = { tmps := #[ptr tk, ptr w.heap.size, ptr fb, .bool true, undef, undef, undef, .tuple #[.agg (faT t), .bool true], ptr tk, .pointer (some ⟨tk, 0, none⟩), .pointer (some ⟨tk, 1, none⟩), lv, ptr tk, .pointer (some ⟨tk, 0, none⟩), .pointer (some ⟨tk, 2, none⟩), ov, .tuple #[.agg (faT t), .bool true], .agg (faT t), .bool true, undef, undef, undef, undef, undef, undef, undef, undef, undef, undef, undef, undef, undef, undef, undef, undef, undef, undef], defers := [] }
  | _ => False
/-- Between two chunks. -/
def TrJ (E : Ev) (md : Option Bool) (s : Sx) (buf : Nat) (t : Tr.Tr) (fa lb : Nat) (M : List Nat) (w : World) (Own : World → Prop) (pre : List UInt8) (md' : Option Bool) (s' : Sx) (last : Int) (W : World) : Prop :=
  ∃ n : Nat, last = n ∧ Acc E.G.faults.length buf s s' pre (Tr.emits t none pre).1 n 0 ∧ Tr.ChA t fa lb (Tr.emits t none pre).2 W ∧ Own W ∧ Kept M w W ∧ (md' ≠ some false → E.c0 = .read buf ∧ md' = md) ∧ (md' = some false → md ≠ none)
/-- With a chunk. -/
def TrJC (E : Ev) (md : Option Bool) (s : Sx) (buf : Nat) (t : Tr.Tr) (fa lb : Nat) (M : List Nat) (w : World) (Own : World → Prop) (pre bs : List UInt8) (s' : Sx) (W : World) : Prop :=
  Acc E.G.faults.length buf s s' (pre ++ bs) (Tr.emits t none pre).1 bs.length (if bs = [] then 1 else 0) ∧ Tr.ChA t fa lb (Tr.emits t none pre).2 W ∧ Own W ∧ Kept M w W ∧ md ≠ none ∧ (bs = [] → pre = s.k.rest)
set_option maxRecDepth 100000 in
set_option maxHeartbeats 8000000 in
theorem tr_do (hp : PS E md w s (tk :: M)) (ht : TkAt w tk E.G.p lv ov 0 false) (htM : tk ∉ M) (hW0 : E.W0.heap.size ≤ tk) (hlv : ∃ x n c, lv = .slice x n c) (hov : ∃ x n c, ov = .slice x n c)
    (hfat : ∀ W, Below w.heap.size w W → Calls Tryz.prog 144 #[lv, ov] W fun e W' => e = .returned (.tuple #[.agg (faT t), .bool true]) ∧ Below W.heap.size W W')
    (hbuf : E.G.l1 = buf) (hm : 1 ≤ buf) (hL : s.k.rest.length ≤ 1048576) (hO : s.k.out.length ≤ 1073741824 ∧ s.k.err.length ≤ 1073741824) (hst : s.steps ≤ 1099511627776) (hh : s.held ≤ 1099511627776) (hfl : E.G.faults.length ≤ 1048576) (hbl : buf ≤ 1099511627776) (hu : s.k.used ≤ E.G.faults.length) (hc : md ≠ some false → E.c0 = .read buf) :
    Calls Tryz.prog 120 #[ptr tk] w (DoOut E md M (fun st s' => st = 0 ∧ s'.k.out = s.k.out ++ (Tr.emits t none s.k.rest).1 ∧ s'.k.err = s.k.err) w tk) := by
  obtain ⟨xl, nl, cl, rfl⟩ := hlv
  obtain ⟨xo, no, co, rfl⟩ := hov
  have hBa : Below w.heap.size w (w.alloc (.cells #[ptr tk] 235)) := (Below.refl _ w).alloc (Nat.le_refl _) _
  have hka : (w.alloc (.cells #[ptr tk] 235)).heap[w.heap.size]? = some (.cells #[ptr tk] 235 (0, 0)) := al_new _ _ rfl
  have hta : TkAt (w.alloc (.cells #[ptr tk] 235)) tk E.G.p (.slice xl nl cl) (.slice xo no co) 0 false := al_old _ ht
  have hf1 := hfat _ hBa.drew
  refine calls_of_wpF Tryz.func120 rfl ?_
  simp only [Tryz.ntmps120, List.size_toArray, List.length_cons, List.length_nil, Nat.reduceAdd, Nat.reduceSub, Array.replicate_succ, Array.replicate_zero, List.push_toArray, List.append_toArray, List.nil_append, List.cons_append]
  refine wpF_seq (wpF_wide (n := 9) ?_)
  gi_wp2
  show wpF _ _ _ _ _ _ _
  generalize hwa : w.alloc (.cells #[ptr tk] 235) = wa at *
  have k0 : wa.cell? ⟨w.heap.size, 0, none⟩ = some (ptr tk) := h_cell hka 0 rfl
  have t1 := h_cell hta 1 rfl
  have t2 := h_cell hta 2 rfl
  have hsa : w.heap.size < wa.heap.size := h_lt hka
  have hmx : Tryz.prog.follows .mixedOrders = true := by kernel_rfl
  refine wpF_seq (wpF_mono (Q := TrR w tk t (.slice xl nl cl) (.slice xo no co)) (wpF_wide (n := 9) ?_) ?_)
  case refine_1 =>
   gi_wp2_with fail
   have hBz : Below wa.heap.size wa (wa.alloc (.cells Tryz.zeroCells241 241)) := (Below.refl _ wa).alloc (Nat.le_refl _) _
   have hf2 := hfat _ (hBa.trans (hBz.mono hBa.size)).drew
   have HZ := Lib.hid (heap_alloc_last wa (.cells Tryz.zeroCells241 241))
   have hfz : (faT t).size = 768 := Tr.faA_size _ _ _
   have k0' : (wa.alloc (.cells Tryz.zeroCells241 241)).cell? ⟨w.heap.size, 0, none⟩ = some (ptr tk) := h_cell (al_old _ hka) 0 rfl
   have t1' : (wa.alloc (.cells Tryz.zeroCells241 241)).cell? ⟨tk, 1, none⟩ = some (.slice xl nl cl) := h_cell (al_old _ hta) 1 rfl
   have t2' : (wa.alloc (.cells Tryz.zeroCells241 241)).cell? ⟨tk, 2, none⟩ = some (.slice xo no co) := h_cell (al_old _ hta) 2 rfl
   gi_region_with (first
     | (refine ⟨trivial, ?_⟩; gi_at_call 144; refine (callsIn_wide.2 hf1).mono ?_; rintro e wb ⟨rfl, hBb⟩; have hst2 := run_storeCells_new (P := Tryz.prog) wb 241 Tryz.zeroCells241 (faT t) (by rw [Tr.faA_size]; exact Tr.infoFa) (by rw [Tr.faA_zero, Tr.faA_size, Tr.faA_size]) (Tr.faA_one _ _ _); have HB := Lib.hid (below_undrew hBb); clear hBb)
     | (refine ⟨trivial, ?_⟩; gi_at_call 144; refine (callsIn_wide.2 hf2).mono ?_; rintro e wb ⟨rfl, hBb⟩; have hst2 := Tr.store_arr (P := Tryz.prog) (cs := faT t) ((hBb.block wa.heap.size (by simp)).trans HZ.out) (by rw [Tr.faA_zero, Tr.faA_size, Tr.faA_size]) (Tr.faA_one _ _ _); have HB := Lib.hid (below_undrew hBb); clear hBb))
   all_goals
     first
     | exact ⟨wb.heap.size, ⟨(hBa.trans (HB.out.mono hBa.size)).alloc (Nat.le_trans hBa.size HB.out.size) _, heap_alloc_last _ _, al_old _ ((HB.out.block w.heap.size hsa).trans hka), Nat.lt_of_lt_of_le hsa HB.out.size⟩, rfl⟩
     | exact ⟨wa.heap.size, ⟨below_setRow (hBa.trans ((hBz.trans (HB.out.mono hBz.size)).mono hBa.size)) hBa.size _, setRow_heap _ _ _ _ _ _ ((HB.out.block wa.heap.size (by simp)).trans HZ.out), (setRow_other _ _ _ _ (Nat.ne_of_lt hsa)).trans ((HB.out.block w.heap.size (by simp; omega)).trans (al_old _ hka)), hsa⟩, rfl⟩
  case refine_2 =>
   clear hf1 hfat hmx t1 t2 k0 hta hka hBa hwa hsa
   rintro e a W hR
   cases e with
   | normal =>
    obtain ⟨fb, hP, rfl⟩ := hR
    show wpF _ _ _ _ _ _ _
    refine wpF_seq (wpF_wide (n := 9) ?_)
    gi_wp2
    show wpF _ _ _ _ _ _ _
    have hch := changer_c (faT t) W
    refine wpF_seq (wpF_wide (n := 9) ?_)
    gi_wp2_with fail
    refine wpIn_load_arr 241 (.tmp 2) rfl fb (faT t) rfl 241 hP.fa Tryz.underlying241 rfl (by rw [Tr.faA_size]; exact Tr.infoFa) ?_
    gi_wp2_with (refine ⟨trivial, ?_⟩; gi_at_call 145; refine (callsIn_wide.2 hch).mono ?_; rintro e wb ⟨rfl, hwb⟩; have HW := Lib.hid hwb; have hsf := store_fn_one wb (.func 183) #[] #[ptr W.heap.size, ptr (W.heap.size + 1)] 171; clear hwb)
    have hBb : Below W.heap.size W wb := by rw [HW.out]; exact ((Below.refl _ W).alloc (Nat.le_refl _) _).alloc (by simp) _
    have hsb : wb.heap.size = W.heap.size + 2 := by rw [HW.out]; simp
    have hA0 : Tr.ChA t W.heap.size (W.heap.size + 1) none wb := by
      rw [HW.out]
      refine ⟨(heap_alloc_old _ _ (by simp)).trans (heap_alloc_last W _), ?_⟩
      have := heap_alloc_last (W.alloc (.cells (faT t) 241)) (.cells #[.int .i64 (-1)] 3)
      simpa [Tr.lastI] using this
    have hBc : Below W.heap.size W (wb.alloc (.cells #[(.func (.func 183) #[] #[ptr W.heap.size, ptr (W.heap.size + 1)])] 171)) := hBb.alloc hBb.size _
    have kf : (wb.alloc (.cells #[(.func (.func 183) #[] #[ptr W.heap.size, ptr (W.heap.size + 1)])] 171)).heap[W.heap.size + 2]? = some (.cells #[(.func (.func 183) #[] #[ptr W.heap.size, ptr (W.heap.size + 1)])] 171 (0, 0)) := by rw [← hsb]; exact al_new _ _ rfl
    have hA1 := hA0.turn (Turn.below (S := []) ((Below.refl _ wb).alloc (Nat.le_refl _) (.cells #[(.func (.func 183) #[] #[ptr W.heap.size, ptr (W.heap.size + 1)])] 171))) (by simp) (by simp)
    have hsc : (wb.alloc (.cells #[(.func (.func 183) #[] #[ptr W.heap.size, ptr (W.heap.size + 1)])] 171)).heap.size = W.heap.size + 3 := by simp [hsb]
    clear hsf HW hch hA0
    generalize wb.alloc (.cells #[(.func (.func 183) #[] #[ptr W.heap.size, ptr (W.heap.size + 1)])] 171) = wc at *
    rw [hsb]
    have kbx := (Turn.below (S := []) hBc).ob hP.box (by simp)
    have k0 : wc.cell? ⟨w.heap.size, 0, none⟩ = some (ptr tk) := h_cell kbx 0 rfl
    have hrd := taskRead_c (ptr tk) wc ⟨_, rfl⟩
    show wpF _ _ _ _ _ _ _
    refine wpF_seq (wpF_wide (n := 9) ?_)
    gi_wp2_with (refine ⟨trivial, ?_⟩; gi_at_call 146; refine (callsIn_wide.2 hrd).mono ?_; rintro e wd ⟨rfl, hwd⟩; have HWd := Lib.hid hwd; clear hwd hrd)
    show wpF _ _ _ _ _ _ _
    refine wpF_block ?_
    have hBd : Below wc.heap.size wc wd := by rw [HWd.out]; exact ((Below.refl _ wc).alloc (Nat.le_refl _) _).alloc (by simp) _
    have hsd : wd.heap.size = wc.heap.size + 2 := by rw [HWd.out]; simp
    have kBt : wd.heap[wc.heap.size]? = some (.cells #[ptr tk] 235 (0, 0)) := by rw [HWd.out]; exact al_old _ (al_new _ _ rfl)
    have kBo : wd.heap[wc.heap.size + 1]? = some (.cells #[.slice none 0 0] 31 (0, 0)) := by rw [HWd.out]; exact al_new _ _ (by simp)
    have hTd : Turn [] wc wd := Turn.below hBd
    have kbxd := hTd.ob kbx (by simp)
    have kfd := hTd.ob kf (by simp)
    have hAd := hA1.turn hTd (by simp) (by simp)
    have hBW : Below w.heap.size w wd := hP.below.trans ((hBc.trans (hBd.mono hBc.size)).mono hP.below.size)
    have htd : TkAt wd tk E.G.p (.slice xl nl cl) (.slice xo no co) 0 false := (Turn.below (S := []) hBW).ob ht (by simp)
    obtain ⟨rv0, v10, v20, _, m1, _⟩ := hp.ex
    have hMl : ∀ b ∈ M, b < w.heap.size := fun b hb => (m1 b (by simp [hb])).1
    have htl := (m1 tk (by simp)).1
    have hw0 := hp.since.size
    have hwW := hP.below.size
    have hfbl := h_lt hP.box
    clear m1 HWd hA1 kf kbx k0 hBd hTd hBc hsb
    rw [hsc] at kBt kBo hsd
    have hBX : ∀ x y : Obj, Below wd.heap.size wd ((wd.alloc x).alloc y) := fun x y => ((Below.refl _ wd).alloc (Nat.le_refl _) x).alloc (by simp) y
    have hBY : ∀ x y : Obj, Below w.heap.size w ((wd.alloc x).alloc y) := fun x y => hBW.trans ((hBX x y).mono hBW.size)
    have hsy : ∀ x y : Obj, ((wd.alloc x).alloc y).heap.size = wd.heap.size + 2 := fun x y => by simp
    refine range_inputs (E := E) (md := md) (s := s) (M := ((wd.heap.size + 1) :: wd.heap.size :: (W.heap.size + 3 + 1) :: (W.heap.size + 2) :: (W.heap.size + 1) :: W.heap.size :: w.heap.size :: M)) (tk := tk) (Bo := W.heap.size + 3 + 1) (Bt := W.heap.size + 3) (D := wd.heap.size)
      (U := fun md' s' last ah W' => TrO md tk wd.heap.size M (fun s' : Sx => s'.k.out = s.k.out ++ (Tr.emits t none s.k.rest).1 ∧ s'.k.err = s.k.err) w md' ((s'.drops last).drops ah.length) W') (U' := fun _ _ _ _ _ => False) (V := fun md' s' W' => TrO md tk wd.heap.size M (fun s' : Sx => s'.k.out = s.k.out ++ (Tr.emits t none s.k.rest).1 ∧ s'.k.err = s.k.err) w md' s' W') (V' := fun _ _ _ => False) (K := fun _ => False) (Pan := fun ch W' => ch = waitsP ∧ Waits md E M (.panicked waitsP) w W' ∧ W'.heap[wd.heap.size]? = some (.deferred (some [])))
      (Mid := fun cv a' => a' = { tmps := #[ptr tk, ptr w.heap.size, ptr fb, .bool true, ptr (W.heap.size + 2), cv, undef, .tuple #[.agg (faT t), .bool true], ptr tk, .pointer (some ⟨tk, 0, none⟩), .pointer (some ⟨tk, 1, none⟩), .slice xl nl cl, ptr tk, .pointer (some ⟨tk, 0, none⟩), .pointer (some ⟨tk, 2, none⟩), .slice xo no co, .tuple #[.agg (faT t), .bool true], .agg (faT t), .bool true, .bool true, .bool false, undef, undef, .agg (faT t), (.func (.func 183) #[] #[ptr W.heap.size, ptr (W.heap.size + 1)]), ptr tk, .func (.func 184) #[] #[ptr (W.heap.size + 3 + 1), ptr (W.heap.size + 3)], cv, undef, undef, undef, undef, undef, undef, undef, undef, undef], defers := [] })
      Tryz.func120 rfl (enter_outer _ _ _ _ _ _) (al_new _ _ (by simp)) ?_ ((Turn.below (S := []) (hBX _ _)).ob htd (by simp)) ?_ hW0 (by simp) (by omega) ((Turn.below (S := []) (hBX _ _)).ob kBo (by simp)) (h_cell ((Turn.below (S := []) (hBX _ _)).ob kBt (by simp)) 0 rfl) ?_ ?_ ?_ ?_ ?_ ?_ ?_ ?_ ?_ ?_ ?_
    · refine hp.own (Turn.below (S := []) (hBY _ _)) (by simp) (fun b hb => ?_)
      rw [hsy]
      simp only [List.mem_cons] at hb ⊢
      rcases hb with h | h | h | h | h | h | h | h | h
      · exact .inl (.inl h)
      · exact .inr (by omega)
      · exact .inr (by omega)
      · exact .inr (by omega)
      · exact .inr (by omega)
      · exact .inr (by omega)
      · exact .inr (by omega)
      · exact .inr (by omega)
      · exact .inl (.inr h)
    · simp only [List.mem_cons, not_or]
      exact ⟨by omega, by omega, by omega, by omega, by omega, by omega, by omega, htM⟩
    · rintro md' s' last ah W1 W' h hk
      exact ⟨h.ne, h.md, h.q, hk.cell h.c3 (by simp), hk.ob h.d (by simp), h.kp.trans (hk.less (fun b hb => by simp [hb]))⟩
    · exact fun _ _ _ _ _ _ h _ => h.elim
    · exact fun hr h => h.rt hr (fun hb => by have := hMl _ hb; omega)
    · exact fun _ h => h
    · exact fun hr h => h.rt hr (fun hb => by have := hMl _ hb; omega)
    · exact fun _ h => h
    · intro cv W1 hlW
      refine wpF_round (n := 9) ?_
      simp only [List.setIfInBounds_toArray, List.set_cons_succ, List.set_cons_zero]
      gi_wp2
    · rintro w1 inb r a' W1 hT1 hI hlW rfl
      have hX1 : Turn [W.heap.size + 3 + 1] wd w1 := ((Turn.below (S := []) (hBX _ _)).mono (by simp)).trans hT1
      obtain ⟨rc, hrc⟩ : ∃ rc, W1.heap[wd.heap.size + 1]? = some (.loop rc) ∧ rc.defers = wd.heap.size := ⟨_, hlW, rfl⟩
      have hD1 : W1.heap[wd.heap.size]? = some (.deferred (some [])) := hI.kp.ob (hT1.ob (al_old _ (al_new _ _ rfl)) (by simp; omega)) (by simp)
      have hOwn : TrW E.G.p tk w.heap.size (W.heap.size + 2) wd.heap.size (wd.heap.size + 1) (.func (.func 183) #[] #[ptr W.heap.size, ptr (W.heap.size + 1)]) rc (.slice xl nl cl) (.slice xo no co) W1 := ⟨hI.kp.ob (hX1.ob kbxd (by simp; omega)) (by simp; omega), hI.kp.ob (hX1.ob kfd (by simp)) (by simp; omega), hI.tk, hD1, hrc.1⟩
      have hA1 : Tr.ChA t W.heap.size (W.heap.size + 1) none W1 := by
        obtain ⟨S, hTS, hSM⟩ := hI.kp
        exact (hAd.turn hX1 (by simp; omega) (by simp)).turn hTS (hSM _ (by simp; omega)) (hSM _ (by simp; omega))
      have hkM : Kept M w W1 := (Kept.below hBW).trans (Kept.trans ⟨_, hX1, fun b hb => by have := hMl b hb; simp; omega⟩ (hI.kp.less (fun b hb => by have := hMl b hb; simp [hb]; omega)))
      obtain ⟨_, _, _, _, n1, _⟩ := hI.ps.ex
      have hNl : ∀ b ∈ rdL r (.slice none 0 0) ++ (inb :: tk :: ((wd.heap.size + 1) :: wd.heap.size :: (W.heap.size + 3 + 1) :: (W.heap.size + 2) :: (W.heap.size + 1) :: W.heap.size :: w.heap.size :: M)), b < W1.heap.size := fun b hb => (n1 b hb).1
      have hw01 := hI.ps.since.size
      have hch := inChunks_c inb W1
      clear n1
      refine wpF_block ?_
      refine wpF_seq (wpF_round (n := 9) ?_)
      gi_wp2_with (refine ⟨trivial, ?_⟩; refine CallsIn.mono (CallsIn.inRound _ (callsIn_wide.2 hch)) ?_; rintro e W2 ⟨rfl, rfl⟩)
      show wpF _ _ _ _ _ _ _
      refine wpF_block ?_
      have hB3 : ∀ y : Obj, Below W1.heap.size W1 ((W1.alloc (.cells #[ptr inb] 248)).alloc y) := fun y => ((Below.refl _ W1).alloc (Nat.le_refl _) _).alloc (by simp) y
      have hs3 : ∀ y : Obj, ((W1.alloc (.cells #[ptr inb] 248)).alloc y).heap.size = W1.heap.size + 2 := fun y => by simp
      have hs2 : (W1.alloc (.cells #[ptr inb] 248)).heap.size = W1.heap.size + 1 := by simp
      have hl2 : (W1.alloc (.cells #[ptr inb] 248)).heap[wd.heap.size + 1]? = some (.loop rc) := al_old _ hrc.1
      have hwdl : wd.heap.size + 1 < W1.heap.size := (Array.getElem?_eq_some_iff.1 hrc.1).1
      have hen := enter_inner hl2 (P := Tryz.prog)
      rw [hs2, hrc.2] at hen
      refine range_chunks (E := E) (r := r) (inb := inb) (Bi := W1.heap.size) (tk := tk) (M := ((W1.heap.size + 1) :: W1.heap.size :: ((wd.heap.size + 1) :: wd.heap.size :: (W.heap.size + 3 + 1) :: (W.heap.size + 2) :: (W.heap.size + 1) :: W.heap.size :: w.heap.size :: M))) (md := md) (s := s) (av := .slice none 0 0) (last := 0) (feed := false) (D := wd.heap.size) (buf := buf)
        (J := TrJ E md s buf t W.heap.size (W.heap.size + 1) M w (TrW E.G.p tk w.heap.size (W.heap.size + 2) wd.heap.size (wd.heap.size + 1) (.func (.func 183) #[] #[ptr W.heap.size, ptr (W.heap.size + 1)]) rc (.slice xl nl cl) (.slice xo no co))) (JC := TrJC E md s buf t W.heap.size (W.heap.size + 1) M w (TrW E.G.p tk w.heap.size (W.heap.size + 2) wd.heap.size (wd.heap.size + 1) (.func (.func 183) #[] #[ptr W.heap.size, ptr (W.heap.size + 1)]) rc (.slice xl nl cl) (.slice xo no co))) (K := fun _ => False) (JS := fun _ _ _ => False) (Pan := fun _ _ => False)
        (Mid := fun cv a' => a' = { tmps := #[ptr tk, ptr w.heap.size, ptr fb, .bool true, ptr (W.heap.size + 2), ptr inb, cv, .tuple #[.agg (faT t), .bool true], ptr tk, .pointer (some ⟨tk, 0, none⟩), .pointer (some ⟨tk, 1, none⟩), .slice xl nl cl, ptr tk, .pointer (some ⟨tk, 0, none⟩), .pointer (some ⟨tk, 2, none⟩), .slice xo no co, .tuple #[.agg (faT t), .bool true], .agg (faT t), .bool true, .bool true, .bool false, undef, undef, .agg (faT t), (.func (.func 183) #[] #[ptr W.heap.size, ptr (W.heap.size + 1)]), ptr tk, .func (.func 184) #[] #[ptr (W.heap.size + 3 + 1), ptr (W.heap.size + 3)], ptr inb, ptr inb, .func (.func 187) #[] #[ptr W1.heap.size], cv, undef, undef, undef, undef, undef, undef], defers := [] })
        Tryz.func120 rfl (hen _ _ _ _ _) (al_new _ _ (by simp)) ?_ ?_ ?_ hbuf hm (by simp) (by omega) (by simp) ?_ ?_ ?_ ?_ ?_ ?_ ?_ ?_
      · refine ⟨hI.ps.own (Turn.below (S := []) (hB3 _)) (by simp) (fun b hb => ?_), ?_, (Turn.below (S := []) (hB3 _)).ob hI.inp (by simp), h_cell (al_old _ (al_new _ _ rfl)) 0 rfl⟩
        · rw [hs3]
          simp only [List.mem_append, List.mem_cons] at hb ⊢
          rcases hb with h | h | h | h | h | h
          · exact .inl (.inl h)
          · exact .inl (.inr (.inl h))
          · exact .inl (.inr (.inr (.inl h)))
          · exact .inr (by omega)
          · exact .inr (by omega)
          · exact .inl (.inr (.inr (.inr h)))
        · have h2 := fun y => hI.rd.turn (Kept.below (hB3 y))
          refine ⟨(h2 _).cs, (h2 _).ah, hI.rd.ne, fun b hb => ?_, hI.rd.new, hI.rd.last0⟩
          have hrl := hNl r (by simp [rdL])
          simp only [List.mem_cons] at hb
          rcases hb with h | h | h | h | h
          · exact hI.rd.dis b (by simp [h])
          · exact hI.rd.dis b (by simp [h])
          · exact ⟨by omega, by simp [Value.ownBlock]⟩
          · exact ⟨by omega, by simp [Value.ownBlock]⟩
          · exact hI.rd.dis b (by simp [h])
      · refine ⟨0, rfl, Acc.refl hu hp.nn.1, hA1.turn (Turn.below (S := []) (hB3 _)) (by simp) (by simp), hOwn.turn (Turn.below (S := []) (hB3 _)) (by simp), hkM.trans (Kept.below (hB3 _)), fun h => ⟨hc h, rfl⟩, fun h => by rw [h]; simp⟩
      · refine ⟨?_, ?_⟩
        · rintro pre md' s' last W5 ⟨n, rfl, hacc, hA, hown, hk, hcc, _⟩
          have e1 : s.k.rest.length = pre.length + s'.k.rest.length := by rw [hacc.rest, List.length_append]
          have := Tr.emits_len t none pre
          have := hacc.steps
          have := hacc.used
          have := hacc.held
          have := hacc.last
          exact ⟨by omega, by omega, by omega, by omega, fun h => (hcc h).1⟩
        · rintro pre md' s' last W5 bs s2 W' hmd ⟨n, rfl, hacc, hA, hown, hk, hcc, hcd⟩ hto hk2
          refine ⟨hacc.got hto, ?_, hown.kept hk2 (fun b hb => by simp at hb ⊢; omega), hk.trans (hk2.less (fun b hb => by simp [hb])), ?_, fun e => ?_⟩
          · obtain ⟨S, hTS, hSM⟩ := hk2
            exact hA.turn hTS (hSM _ (by simp)) (hSM _ (by simp))
          · by_cases h : md' = some false
            · exact hcd h
            · rw [← (hcc h).2]; exact hmd
          · subst e
            exact hacc.all hto
      · rintro pre md' s' last W5 W' hrt ⟨n, rfl, hacc, hA, hown, hk, hcc⟩
        exact ⟨n, rfl, hacc, hA.turn hrt.turn (by simp; omega) (by simp; omega), hown.rt hrt (by omega), hk.trans ⟨_, hrt.turn, fun b hb => by have := hMl b hb; simp; omega⟩, hcc⟩
      · rintro pre bs s' W5 W' hrt ⟨hacc, hA, hown, hk, hcc⟩
        exact ⟨hacc, hA.turn hrt.turn (by simp; omega) (by simp; omega), hown.rt hrt (by omega), hk.trans ⟨_, hrt.turn, fun b hb => by have := hMl b hb; simp; omega⟩, hcc⟩
      · exact fun _ h => h
      · intro cv W5 hlW5
        refine wpF_round (n := 9) ?_
        simp only [List.setIfInBounds_toArray, List.set_cons_succ, List.set_cons_zero]
        gi_wp2
      · rintro pre bs cv av' s2 a' W5 h0 hS hby hbl ⟨hacc, hA, hown, hk, hne, _⟩ hlW5 rfl
        obtain ⟨b, off, cap, rfl, hcap⟩ : ∃ b off cap, cv = .slice (some ⟨b, off, none⟩) bs.length cap ∧ bs.length ≤ cap ∧ cap ≤ 9223372036854775807 := by
          rcases hby with ⟨_, h⟩ | ⟨b, off, cap, h1, h2, _⟩
          · exact absurd h h0
          · exact ⟨b, off, cap, h1, h2⟩
        have hlen : s.k.rest.length = pre.length + bs.length + s2.k.rest.length := by rw [hacc.rest, List.length_append, List.length_append]
        rw [if_neg h0] at hacc
        have hbM := hbl b off _ _ rfl
        have hdl := hS.rd.dis (W.heap.size + 1) (by simp)
        have hbne : b ≠ W.heap.size + 1 := by
          intro e
          rw [e] at hbM
          simp only [rdL, List.mem_cons, Option.mem_toList] at hbM
          rcases hbM with h | h
          · exact hdl.1 h
          · exact hdl.2 h
        have hcall := Tr.chg_c (W0 := W5.drew) (q0 := (Tr.emits t none pre).2) (bs := bs) (.slice (some ⟨b, off, none⟩) bs.length cap) (hA.turn (Turn.refl [] W5).drew (by simp) (by simp)) hby (fun b' off' n' c' e => by cases e; exact hbne) (by omega)
        have happ := Tr.emits_app t none pre bs
        have hel := Tr.emits_len t (Tr.emits t none pre).2 bs
        have hel0 := Tr.emits_len t none pre
        have c0 : W5.cell? ⟨w.heap.size, 0, none⟩ = some (ptr tk) := h_cell hown.box 0 rfl
        have cf : W5.cell? ⟨W.heap.size + 2, 0, none⟩ = some (.func (.func 183) #[] #[ptr W.heap.size, ptr (W.heap.size + 1)]) := h_cell hown.fn 0 rfl
        have hcfn : ∀ (z : Array Value) (u : World), (callFunc 183 z).run Tryz.prog u = .ok (.enter 183 z) u := fun _ _ => by kernel_rfl
        have HTell : Hid (∀ W6 v, Tr.Row W6 W5.drew.heap.size v (Tr.emits t (Tr.emits t none pre).2 bs).1 → Tr.ChA t W.heap.size (W.heap.size + 1) (Tr.emits t (Tr.emits t none pre).2 bs).2 W6 → Turn [W.heap.size + 1] W5.drew W6 → W6.cell? ⟨w.heap.size, 0, none⟩ = some (ptr tk) ∧ Calls Tryz.prog 148 #[ptr tk, v] W6 fun e W7 => e = .returned (.bool true) ∧ W7.heap[W1.heap.size + 1]? = W5.heap[W1.heap.size + 1]? ∧ ChNxt E r inb W1.heap.size tk ((W1.heap.size + 1) :: W1.heap.size :: ((wd.heap.size + 1) :: wd.heap.size :: (W.heap.size + 3 + 1) :: (W.heap.size + 2) :: (W.heap.size + 1) :: W.heap.size :: w.heap.size :: M)) false (TrJ E md s buf t W.heap.size (W.heap.size + 1) M w (TrW E.G.p tk w.heap.size (W.heap.size + 2) wd.heap.size (wd.heap.size + 1) (.func (.func 183) #[] #[ptr W.heap.size, ptr (W.heap.size + 1)]) rc (.slice xl nl cl) (.slice xo no co))) pre bs s2 W7) := by
          intro W6 v hrow hA6 hTd6
          have hT6 : Turn [W.heap.size + 1] W5 W6 := ⟨hTd6.os, hTd6.tape, hTd6.output, hTd6.size, hTd6.block⟩
          have hown6 := hown.turn hT6 (fun x hx => by simp at hx ⊢; omega)
          have hll : W1.heap.size + 1 < W5.heap.size := (Array.getElem?_eq_some_iff.1 hlW5).1
          have hps6 : PS E (some false) W6 s2 (v.ownBlock.toList ++ (rdL r av' ++ (inb :: tk :: ((W1.heap.size + 1) :: W1.heap.size :: ((wd.heap.size + 1) :: wd.heap.size :: (W.heap.size + 3 + 1) :: (W.heap.size + 2) :: (W.heap.size + 1) :: W.heap.size :: w.heap.size :: M))))) := hS.ps.own hT6 (fun x hx => by
            have e : x = W.heap.size + 1 := by simpa using hx
            rw [e]
            exact ⟨by omega, .inl (by simp)⟩) (fun x hx => by
            rcases List.mem_append.1 hx with h | h
            · rw [Option.mem_toList] at h
              exact .inr ⟨Tr.own_ge2' hrow x h, Tr.row_lt hrow x h⟩
            · exact .inl h)
          have hrd6 : RdI E W6 r av' [] bs.length false false (inb :: tk :: ((W1.heap.size + 1) :: W1.heap.size :: ((wd.heap.size + 1) :: wd.heap.size :: (W.heap.size + 3 + 1) :: (W.heap.size + 2) :: (W.heap.size + 1) :: W.heap.size :: w.heap.size :: M))) := ⟨hT6.ob hS.rd.cs (by simpa using fun e : r = W.heap.size + 1 => hdl.1 e.symm), hS.rd.ah.turn hT6 (fun g hg => by simpa using fun e : g = W.heap.size + 1 => hdl.2 (e ▸ hg)), hS.rd.ne, hS.rd.dis, hS.rd.new, hS.rd.last0⟩
          have hine : inb ≠ W.heap.size + 1 := h_ne hS.inp hA.last (by decide)
          have hin6 := hT6.ob hS.inp (by simpa using hine)
          have hbx6 := hT6.cell hS.box (by show W1.heap.size ∉ _; simp; omega)
          refine ⟨h_cell hown6.box 0 rfl, ?_⟩
          have e1 : s2.k.out.length = s.k.out.length + (Tr.emits t none pre).1.length := by rw [hacc.out, List.length_append]
          have e2 := hacc.err
          have e3 := hacc.steps
          have e4 := hacc.used
          rw [List.length_append] at e3
          refine (tell_c hps6 tk (h_cell hown6.tk 0 rfl) v _ (Tr.row_by hrow) (fun b' off' n' c' e => List.mem_append_left _ (by rw [e]; simp [Value.ownBlock])) (by omega) e4.2 ⟨by omega, by rw [e2]; omega⟩ (by omega) (fun _ h => absurd rfl h)).mono ?_
          rintro e W7 (⟨h, _⟩ | ⟨rfl, md', s', g1, g2, hwr, hps, hk7⟩)
          · cases h
          · obtain rfl : md' = some false := by
              by_cases hz : (Tr.emits t (Tr.emits t none pre).2 bs).1 = []
              · exact g1 hz
              · exact g2 hz
            obtain ⟨u, ek, _⟩ := hwr.k
            have hk8 : Kept (inb :: tk :: ((W1.heap.size + 1) :: W1.heap.size :: ((wd.heap.size + 1) :: wd.heap.size :: (W.heap.size + 3 + 1) :: (W.heap.size + 2) :: (W.heap.size + 1) :: W.heap.size :: w.heap.size :: M))) W6 W7 := hk7.less (fun x hx => by simp only [List.mem_append]; exact .inr (.inr hx))
            have hrd7 := hrd6.turn (hk7.less (fun x hx => by simp only [List.mem_append] at hx ⊢; exact .inr hx))
            refine ⟨rfl, (hk8.ob (hT6.ob hlW5 (by simp; omega)) (by simp)).trans hlW5.symm, s', av', by rw [ek]; rfl, ⟨hps.own (Turn.refl [] W7) (by simp) (fun x hx => .inl (by simp only [List.mem_append] at hx ⊢; exact .inr hx)), hrd7, hk8.ob hin6 (by simp), hk8.cell hbx6 (by simp)⟩, bs.length, rfl, ?_, ?_, hown6.kept hk8 (fun x hx => by simp at hx ⊢; omega), (hk.trans ⟨_, hT6, fun x hx => by have := hMl x hx; simp; omega⟩).trans (hk8.less (fun x hx => by simp [hx])), fun h => absurd rfl h, fun _ => hne⟩
            · rw [happ]
              exact hacc.told hwr
            · rw [happ]
              obtain ⟨S, hTS, hSM⟩ := hk8
              exact hA6.turn hTS (hSM _ (by simp)) (hSM _ (by simp))
        have HL5 := Lib.hid hlW5
        clear hacc hA hown hk hS hby hbl hlW5 happ hel hel0 hdl hbM hsd hsc hs2 hs3
        refine wpF_round (n := 9) ?_
        gi_wp2_with fail
        have hmx : Tryz.prog.follows .mixedOrders = true := by kernel_rfl
        gi_region_with (first
          | (refine ⟨trivial, ?_⟩; gi_at_call 148; refine CallsIn.mono (CallsIn.inRound _ (callsIn_wide.2 htell)) ?_; rintro e W7 ⟨rfl, h7, hnx⟩; have HNX := Lib.hid (And.intro h7 hnx); clear h7 hnx htell)
          | (refine ⟨trivial, ?_⟩; refine CallsIn.mono (CallsIn.inRound _ (callsIn_wide.2 hcall)) ?_; rintro e W6 ⟨v6, rfl, hr6, hA6, hT6⟩; obtain ⟨c6, htell⟩ := HTell.out W6 v6 hr6 hA6 hT6; obtain ⟨x6, y6, rfl⟩ := Tr.own_sl hr6; clear hr6 hA6 hT6 hcall))
        all_goals
          gi_wp2
          exact ⟨HNX.out.1.trans HL5.out, HNX.out.2⟩
      · rintro pre s3 av3 W5 hS ⟨hacc, hA, hown, hk, hne, hall⟩
        have hpre := hall rfl
        rw [List.append_nil, hpre] at hacc
        rw [hpre] at hA
        refine ⟨(hown.lp.trans hrc.1.symm).trans hlW, some false, s3, av3, [], 0, false, true, false, hS.ps.own (Turn.refl [] W5) (by simp) (fun b hb => .inl ?_), ⟨hS.rd.cs, hS.rd.ah, hS.rd.ne, fun b hb => hS.rd.dis b ?_, hS.rd.new, hS.rd.last0⟩, hS.inp, h_cell hown.tk 0 rfl, hne, rfl, ⟨hacc.out, hacc.err⟩, h_cell hown.tk 3 rfl, hown.d, hk⟩
        · simp only [List.mem_append, List.mem_cons] at hb ⊢
          rcases hb with h | h | h | h
          · exact .inl h
          · exact .inr (.inl h)
          · exact .inr (.inr (.inl h))
          · exact .inr (.inr (.inr (.inr (.inr h))))
        · simp only [List.mem_cons] at hb ⊢
          rcases hb with h | h | h
          · exact .inl h
          · exact .inr (.inl h)
          · exact .inr (.inr (.inr (.inr h)))
      · exact fun c s3 av3 last3 ended3 W5 h => h.elim
      · rintro ch W5 (h | ⟨rfl, hW⟩)
        · exact h.elim
        · obtain ⟨S, hTS, hSM⟩ := hW.2.2.2.2.2
          refine ⟨rfl, rfl, Waits.after (hkM.trans (Kept.below (hB3 _))) (hW.less (fun b hb => by simp [hb])), hTS.ob ((Turn.below (S := []) (hB3 _)).ob hD1 (by simp)) (hSM _ (by simp))⟩
    · rintro W1 ⟨md', s', hps, hV⟩
      obtain rfl := hV.md
      refine leave_ret hV.d (.tuple #[]) (results_none rfl _ _ _) (.inr ⟨hV.ne, _, 0, s', rfl, mark_cell hV.d hV.c3, hps.own mark_turn (fun b hb => ?_) (fun b hb => .inl (by simp [hb])), hV.kp.trans ⟨_, mark_turn, fun b hb => by have := hMl b hb; simp; omega⟩, rfl, hV.q⟩)
      have e : b = wd.heap.size := by simpa using hb
      rw [e]
      exact ⟨by omega, .inl (by simp)⟩
    · exact fun c W1 h _ => h.elim
    · rintro ch W1 ⟨rfl, hW, hD⟩
      exact leave_panic hD (.inl (hW.marked hD (by omega) (fun b hb => ⟨hb, by have := hMl b hb; omega⟩)))
   | _ => exact hR.elim
end
end Go.Proofs.YtfkoehfkiommpaaGreatDoor
