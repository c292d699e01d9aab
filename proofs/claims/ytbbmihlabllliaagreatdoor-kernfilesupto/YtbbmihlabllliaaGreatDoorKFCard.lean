/- The law KernFiles holds for all parts, ways to open, faults and sizes of a Read, where what it reads is of bulk at most 1048576: what is written to a file in pieces stands there one behind the other, and is read so. -/
import Derived.Deep.Matrix
import Derived.Test.YtbbmihlabllliaaGreatDoorKBulk
import Derived.Test.YtbbmihlabllliaaGreatDoorKFiles
import Derived.Test.YtbbmihlabllliaaGreatDoorCards
import Derived.Test.YtbbmihlabllliaaGreatDoorTie
import Derived.Test.YtbbmihlabllliaaGreatDoorKAwake
import Derived.Test.YtbbmihlabllliaaGreatDoorKFwalk
namespace Go.Proofs.YtbbmihlabllliaaGreatDoor
open Go.ChangeShapes Go.WideShapes Go.ChangeAt Go.RowKit
open Go.WideMaps Go.WideElems

theorem bulk_mem {H : Type} {x : DataW H} : ∀ {l : List (DataW H)}, x ∈ l → Rows.uptoBulk x ≤ Rows.uptoBulkAll l
  | y :: r, h => by
    simp only [Rows.uptoBulkAll]
    rcases List.mem_cons.1 h with rfl | h
    · omega
    · have := bulk_mem h; omega
theorem cells33 : Tryz.prog.cellsOf 33 = 1 := by kernel_rfl

set_option maxRecDepth 100000 in
theorem open_parts {H : Type} {enc : TypeId × Value → H} {W : World} {base : Nat} {v : Value} {d : DataW H} {places : List MemPlace}
    (hv : Value.okWide Tryz.prog W .any base 57 v) (h : DataW.Trod enc Tryz.prog W 0 (fun _ => true) true 57 v d places) :
    ∃ ps : List (List UInt8), ps.length ≤ Rows.uptoBulk d ∧ (∀ j : Nat, (ps[j]?.getD []).length ≤ Rows.uptoBulk d) ∧ Ps W.heap.size W v ps := by
  obtain ⟨a0, len, cap, rfl⟩ := okWide_slice Tryz.underlying57 hv
  obtain ⟨fuel, hf⟩ := h
  rcases Deep.open_int_rows Tryz.underlying57 Tryz.underlying33 Tryz.underlying5 cells33 cells5 hf with ⟨hcs, hx⟩ | ⟨a, len', cap', A, L, C, Z, hcs, _, hl, hm, hx, hcell⟩
  · have hcs' : Value.slice a0 len cap = .slice none 0 0 := by simpa [Value.cells] using hcs
    cases hcs'
    exact ⟨[], Nat.zero_le _, fun j => by simp, none, 0, rfl, .inl rfl⟩
  · have hcs' : Value.slice a0 len cap = .slice (some a) len' cap' := by simpa [Value.cells] using hcs
    cases hcs'
    obtain ⟨hspot, hb⟩ := slice_at Tryz.underlying57 hv
    obtain ⟨b, off, spot⟩ := a
    simp only at hspot hb
    subst hspot
    have e : d = .slice ((List.range len).map fun r => Deep.intRow .u8 (A r) (L r) (Z r)) ((List.range (cap - len)).map fun j => Deep.intRow .u8 (A (len + j)) (L (len + j)) (Z (len + j))) := congrArg Prod.fst hx
    have hlen : ((List.range len).map fun r => ((Z r).take (L r)).map fun z => UInt8.ofNat z.toNat).length = len := by simp
    have hget : ∀ j, j < len → (((List.range len).map fun r => ((Z r).take (L r)).map fun z => UInt8.ofNat z.toNat)[j]?.getD []) = ((Z j).take (L j)).map fun z => UInt8.ofNat z.toNat := fun j hj => by simp [hj]
    have hel : ∀ j, j < len → (((Z j).take (L j)).map fun z => UInt8.ofNat z.toNat).length = L j := fun j hj => by
      obtain ⟨_, h1, _, h2, _⟩ := hcell j (by omega)
      rw [List.length_map, List.length_take]; omega
    have hbl : len ≤ Rows.uptoBulk d := by
      rw [e, Rows.uptoBulk]
      have := bulk_length ((List.range len).map fun r => Deep.intRow (H := H) .u8 (A r) (L r) (Z r))
      simp at this
      omega
    refine ⟨(List.range len).map fun r => ((Z r).take (L r)).map fun z => UInt8.ofNat z.toNat, by rw [hlen]; exact hbl, fun j => ?_, some ⟨b, off, none⟩, cap, by rw [hlen], .inr ⟨b, off, rfl, hb, fun j hj => ?_⟩⟩
    · by_cases hj : j < len
      · rw [hget j hj, hel j hj]
        obtain ⟨_, h1, _, h2, _, h3, _⟩ := hcell j (by omega)
        have hm2 := bulk_mem (x := Deep.intRow (H := H) .u8 (A j) (L j) (Z j)) (l := (List.range len).map fun r => Deep.intRow (H := H) .u8 (A r) (L r) (Z r)) (List.mem_map.2 ⟨j, by simpa using hj, rfl⟩)
        have hm3 : L j ≤ Rows.uptoBulk (Deep.intRow (H := H) .u8 (A j) (L j) (Z j)) := by
          cases hA : A j with
          | none => have := h3 hA; omega
          | some a' =>
            simp only [Deep.intRow, Rows.uptoBulk]
            have := bulk_length (lits (H := H) .u8 ((Z j).take (L j)))
            have h9 : (lits (H := H) .u8 ((Z j).take (L j))).length = L j := by simp [lits]; omega
            omega
        rw [e, Rows.uptoBulk]
        omega
      · rw [List.getElem?_eq_none (by rw [hlen]; omega)]
        simp
    · rw [hlen] at hj
      obtain ⟨c0, h1, _, h2, hwz, h3, h4⟩ := hcell j (by omega)
      rw [add_plain] at c0
      refine ⟨_, c0, ?_⟩
      rw [hget j hj]
      have hl1 := hel j hj
      cases hA : A j with
      | none =>
        have hC := h3 hA
        left
        have hL0 : L j = 0 := by omega
        rw [hL0, hC]
        exact ⟨rfl, by simp⟩
      | some a' =>
        right
        refine ⟨a', C j, by rw [hl1], by rw [hl1]; exact h1, ?_⟩
        rw [hl1]
        by_cases hL0 : L j = 0
        · exact .inl hL0
        · right
          obtain ⟨_, hcc⟩ := h4 a' hA
          have hc0 := hcc 0 (by omega)
          have hsp : a'.spot = none := by simpa [Addr.add] using World.cell?_spot hc0
          obtain ⟨b2, o2, sp2⟩ := a'
          simp only at hsp
          subst hsp
          refine ⟨b2, o2, rfl, ?_, fun i hi => ?_⟩
          · have := World.block_lt_of_cell? W _ hc0
            simpa [Addr.add] using this
          · have hc := hcc i (by omega)
            rw [add_plain] at hc
            have hiz : i < (Z j).length := by omega
            have e1 : ((((Z j).take (L j)).map fun z => UInt8.ofNat z.toNat)[i]?.getD 0) = UInt8.ofNat ((Z j)[i]).toNat := by
              rw [List.getElem?_map, List.getElem?_take, if_pos hi, List.getElem?_eq_getElem hiz]; rfl
            have hw := wf_u8 (hwz (Z j)[i] (List.getElem_mem hiz))
            rw [hc, e1]
            have e2 : (Z j).getD i 0 = (Z j)[i] := by simp [List.getD, hiz]
            rw [e2]
            have e3 : (UInt8.ofNat ((Z j)[i]).toNat).toNat = ((Z j)[i]).toNat := Nat.mod_eq_of_lt (by omega)
            rw [e3, Int.toNat_of_nonneg hw.1]
theorem laid_metF (os : Os) : laidMet Tryz.prog Rows.kernFilesUptoRow.laid ((layAll (World.holding Tryz.prog os ⟨#[], #[], []⟩)).forCall (fun _ _ => 0) ⟨#[], #[Value.slice none 0 0, Value.slice none 0 0, Value.slice none 0 0, .int .i64 0], []⟩).memory :=
  laidMet_of_run' 8 (by kernel_rfl) (by kernel_rfl)
end Go.Proofs.YtbbmihlabllliaaGreatDoor
namespace Go.Proofs.YtbbmihlabllliaaGreatDoor.FilesHeld
open Go.ChangeShapes Go.WideShapes Go.ChangeAt Go.RowKit
open Go.WideMaps Go.WideElems

theorem maxlen (W : World) (h : W.ShapedOpen Tryz.prog) : ∃ m, W.cell? ⟨0, 0, none⟩ = some (.int .i64 m) :=
  Go.Proofs.cell_of_shapedOpen_int (zero := #[.int .i64 0]) (t := 3) h (of_decide_eq_true (by kernel_rfl)) (by kernel_rfl) rfl (by kernel_rfl) (by kernel_rfl) Tryz.underlying3

set_option maxRecDepth 100000 in
theorem contract (H : Type) (enc : TypeId × Value → H) (W : World) (base : Nat) (args : Array Value) (ds gs : List (DataW H)) (before : List MemPlace)
    (hval : ∀ (j : Nat) t v, Tryz.f5.params[j]? = some t → args[j]? = some v → Value.okWide Tryz.prog W .any base t v)
    (hW : DataW.Whole enc Tryz.prog Tryz.f5.params.toList Rows.kernFilesSpec.vars false W args.toList ds gs before) (hsh : W.ShapedOpen Tryz.prog) (hk : Rows.uptoSmall H (ds ++ gs) = true) :
    Calls Tryz.prog 5 args W fun e W' => ∃ v, e = .returned v ∧ Rows.kernFilesSpec.post enc Tryz.prog Tryz.f5 false true false false W args v W' := by
  have hW' := hW
  obtain ⟨p, q, hA0, hV, rfl, hfz, hnd⟩ := hW
  have hA : DataW.TrodAll enc Tryz.prog W 0 (fun _ => true) true Tryz.f5.params.toList args.toList ds p := hA0
  rw [Tryz.params5] at hA hval
  obtain ⟨v0, vs0, d0, ds0, p0, q0, hargs, rfl, rfl, h0, r0⟩ := trodAll_cons hA
  obtain ⟨v1, vs1, d1, ds1, p1, q1, rfl, rfl, rfl, h1, r1⟩ := trodAll_cons r0
  obtain ⟨v2, vs2, d2, ds2, p2, q2, rfl, rfl, rfl, h2, r2⟩ := trodAll_cons r1
  obtain ⟨v3, vs3, d3, ds3, p3, q3, rfl, rfl, rfl, h3, r3⟩ := trodAll_cons r2
  obtain ⟨rfl, rfl, rfl⟩ := trodAll_nil r3
  obtain rfl : args = #[v0, v1, v2, v3] := by cases args; simp_all
  obtain ⟨rfl, rfl⟩ := trodVars_none hV
  obtain ⟨m, hm⟩ := maxlen W hsh
  have h00 : 0 < W.heap.size := World.block_lt_of_cell? W _ hm
  have hb : Rows.uptoBulkAll ([d0, d1, d2, d3] ++ []) ≤ 1048576 := of_decide_eq_true hk
  simp only [List.append_nil, Rows.uptoBulkAll] at hb
  obtain ⟨ps, hbulk0, hbulk9, hsrc0⟩ := open_parts (hval 0 57 v0 rfl rfl) h0
  obtain ⟨most, rfl, _⟩ := open_int Tryz.underlying3 (hval 3 3 v3 rfl rfl) h3
  obtain ⟨ns, hbulk1, hsrc1⟩ := open_nums (hval 1 37 v1 rfl rfl) h1
  obtain ⟨fb, l, hbulk2, hsrc2, hfb⟩ := open_faults h00 (hval 2 23 v2 rfl rfl) h2 (by omega)
  clear hA0
  have hlt0 : ∀ x ∈ p0, x.block < W.heap.size := fun x hx => hW'.lt x (by simp [hx])
  have hlt1 : ∀ x ∈ p1, x.block < W.heap.size := fun x hx => hW'.lt x (by simp [hx])
  have hlt2 : ∀ x ∈ p2, x.block < W.heap.size := fun x hx => hW'.lt x (by simp [hx])
  have hlt3 : ∀ x ∈ p3, x.block < W.heap.size := fun x hx => hW'.lt x (by simp [hx])
  have hwalk : Calls Tryz.prog 5 #[v0, v1, v2, .int .i64 most] W fun e w' => e = .returned (.bool true) ∧ Below W.heap.size W w' :=
    files_walk awake_k v0 v1 v2 fb ps ns l most (by omega) (fun j => Nat.le_trans (hbulk9 j) (by omega)) (by omega) hbulk2 m W hm hsrc0 hsrc1 hsrc2 hfb
  refine hwalk.mono fun e W' ⟨he, hg⟩ => ?_
  subst he
  refine ⟨_, rfl, _, _, _, [], p0 ++ (p1 ++ (p2 ++ (p3 ++ []))), [], hW', ?_, ?_, rfl, hg.frame _, fun h => by cases h⟩
  · exact trodAll_cons_mk (shut_bool Tryz.underlying4 _) trodAll_mk0
  · exact trodAll_cons_mk (Below.trod laidOut (by kernel_rfl) (of_decide_eq_true (by kernel_rfl)) h0 hg hlt0) (trodAll_cons_mk (Below.trod laidOut (by kernel_rfl) (of_decide_eq_true (by kernel_rfl)) h1 hg hlt1) (trodAll_cons_mk (Below.trod laidOut (by kernel_rfl) (of_decide_eq_true (by kernel_rfl)) h2 hg hlt2) (trodAll_cons_mk (Below.trod laidOut (by kernel_rfl) (of_decide_eq_true (by kernel_rfl)) h3 hg hlt3) trodAll_mk0)))

theorem reads (os : Os) {H : Type} (enc : TypeId × Value → H) : ∃ places, DataW.whole enc Tryz.prog ((layAll (World.holding Tryz.prog os ⟨#[], #[], []⟩)).forCall (fun _ _ => 0) ⟨#[], #[Value.slice none 0 0, Value.slice none 0 0, Value.slice none 0 0, .int .i64 0], []⟩).memory Tryz.f5.params.toList Rows.kernFilesSpec.vars false #[Value.slice none 0 0, Value.slice none 0 0, Value.slice none 0 0, .int .i64 0].toList 8 = some ([.nil, .nil, .nil, .lit (.int .i64 0)], [], places) :=
  ⟨[], by kernel_rfl⟩

set_option maxRecDepth 100000 in
theorem lifted (os : Os) (started : os.Started) (H : Type) (enc : TypeId × Value → H) (F : Stop.Interp) :
    ReturnsInHanded {} Tryz.checked os 5 .any ((Rows.OpenSpec.upto Rows.kernFilesSpec).preRow enc Tryz.prog Tryz.f5 Rows.kernFilesUptoRow.domain false Rows.kernFilesUptoRow.laid) (((Rows.OpenSpec.upto Rows.kernFilesSpec).at F).post enc Tryz.prog Tryz.f5 false true false false) := by
  obtain ⟨places, hx⟩ := reads os enc
  refine returnsInHanded_of_row (C := Tryz.checked) (s := Rows.OpenSpec.upto Rows.kernFilesSpec) own started (by kernel_rfl) Tryz.func5
    (witness_row_at (enc := enc) (C := Tryz.checked) false (layAll (World.holding Tryz.prog os ⟨#[], #[], []⟩)) #[Value.slice none 0 0, Value.slice none 0 0, Value.slice none 0 0, .int .i64 0] rfl (by kernel_rfl) (by kernel_rfl) (by kernel_rfl)
      (OpenSpec.preRow_of_cond 8 hx (by kernel_rfl) (fun k hk => by cases hk; kernel_rfl) (by kernel_rfl) (laid_metF os))) ?_
  intro W base args ds gs before hval hW _ hcond _ _ hsh _
  exact contract H enc W base args ds gs before hval hW hsh (hcond _ rfl)

theorem said : Rows.KernFilesUptoSaid :=
  OpenClaim.holds_of_cond 5 Tryz.f5 rfl rfl rfl rfl rfl rfl rfl ⟨rfl, rfl, rfl, rfl, rfl⟩ rfl rfl rfl rfl rfl (by kernel_rfl) Tryz.func5 (by kernel_rfl)
    (of_decide_eq_true (by kernel_rfl)) (by unfold Func.isWrapper; first | (rw [if_pos (by decide +kernel)]; kernel_rfl) | (rw [if_neg (by decide +kernel)]; exact ⟨rfl, rfl⟩))
    (fun os started H enc _ F => by rw [OpenClaim.pre_eq_preRow]; exact lifted os started H enc F)

theorem plain (f : FuncId) (fn : Func) (hf : Tryz.pinned.checked.prog.funcNamed "toolchest/toolchestlaw03.KernFiles" = some f) (hfn : Tryz.pinned.checked.prog.funcs[f]? = some fn) :
    true = Tryz.pinned.checked.prog.looks [] ∧ ∀ (j : Nat) t, fn.params[j]? = some t → Tryz.pinned.checked.prog.wantsStandIn t = false := by
  obtain rfl : f = 5 := Option.some.inj ((show Tryz.prog.funcNamed "toolchest/toolchestlaw03.KernFiles" = some 5 by kernel_rfl).symm.trans hf) |>.symm
  obtain rfl : fn = Tryz.f5 := (Option.some.inj (Tryz.func5.symm.trans hfn)).symm
  refine ⟨by kernel_rfl, fun j t ht => ?_⟩
  rw [Tryz.params5] at ht
  have hm := Array.mem_of_getElem? ht
  have h2 : t = 57 ∨ t = 37 ∨ t = 23 ∨ t = 3 := by simpa using hm
  rcases h2 with rfl | rfl | rfl | rfl
  · exact (show Tryz.prog.wantsStandIn 57 = false by kernel_rfl)
  · exact (show Tryz.prog.wantsStandIn 37 = false by kernel_rfl)
  · exact (show Tryz.prog.wantsStandIn 23 = false by kernel_rfl)
  · exact (show Tryz.prog.wantsStandIn 3 = false by kernel_rfl)
end Go.Proofs.YtbbmihlabllliaaGreatDoor.FilesHeld

namespace Go.Proofs.YtbbmihlabllliaaGreatDoor
theorem kernFilesUpto_card : Rows.KernFilesUptoCardSaid :=
  Claim7.holds_tied_plain_at .later [] _ _ _ _ FilesHeld.said (fun _ h => by cases h) (by kernel_rfl) (fun _ h => by cases h) kernFilesUpto_row_tie rfl ⟨rfl, rfl⟩ (by kernel_rfl) rfl FilesHeld.plain (by kernel_rfl)
end Go.Proofs.YtbbmihlabllliaaGreatDoor
