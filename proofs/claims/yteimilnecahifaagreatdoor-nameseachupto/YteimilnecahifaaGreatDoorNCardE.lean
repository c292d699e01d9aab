/- The law NamesEach holds for every input, where what it reads is of bulk at most 1048576: a format that takes one argument is gone through for each of them. -/
import Derived.Test.YteimilnecahifaaGreatDoorCards
import Derived.Test.YteimilnecahifaaGreatDoorTie
import Derived.Test.YteimilnecahifaaGreatDoorNLaidD
import Derived.Test.YteimilnecahifaaGreatDoorNTake
namespace Go.Proofs.YteimilnecahifaaGreatDoor.EachHeld
open Go.Proofs.YteimilnecahifaaGreatDoor.Nm Go.Proofs.YteimilnecahifaaGreatDoor.Op
open Go.ChangeShapes Go.WideShapes Go.ChangeAt Go.RowKit
open Go.ChangeMaps (open_string shut_string)
open Go.WideMaps Go.WideElems

set_option maxRecDepth 100000 in
theorem contract (H : Type) (enc : TypeId × Value → H) (W : World) (base : Nat) (args : Array Value) (ds gs : List (DataW H)) (before : List MemPlace)
    (hval : ∀ (j : Nat) t v, Tryz.f5.params[j]? = some t → args[j]? = some v → Value.okWide Tryz.prog W .any base t v)
    (hW : DataW.Whole enc Tryz.prog Tryz.f5.params.toList Rows.namesEachSpec.vars false W args.toList ds gs before) (hA : AmG W) (hk : Rows.uptoSmall H (ds ++ gs) = true) :
    Calls Tryz.prog 5 args W fun e W' => ∃ v, e = .returned v ∧ Rows.namesEachSpec.post enc Tryz.prog Tryz.f5 false true false false W args v W' := by
  have hW' := hW
  obtain ⟨p, q, hA0, hV, rfl, hfz, hnd⟩ := hW
  have hAA : DataW.TrodAll enc Tryz.prog W 0 (fun _ => true) true Tryz.f5.params.toList args.toList ds p := hA0
  rw [Tryz.params5] at hAA hval
  obtain ⟨v0, vs0, d0, ds0, p0, q0, hargs, rfl, rfl, h0, r0⟩ := trodAll_cons hAA
  obtain ⟨rfl, rfl, rfl⟩ := trodAll_nil r0
  obtain rfl : args = #[v0] := by cases args; simp_all
  obtain ⟨rfl, rfl⟩ := trodVars_none hV
  obtain ⟨l, l0, b0⟩ := open_row (hval 0 32 v0 rfl rfl) h0
  clear hA0
  have hb : Rows.uptoBulkAll ([d0] ++ []) ≤ 1048576 := of_decide_eq_true hk
  simp only [List.append_nil, Rows.uptoBulkAll] at hb
  have hlt0 : ∀ x ∈ p0, x.block < W.heap.size := fun x hx => hW'.lt x (by simp [hx])
  refine (each_law says_n _ l W hA l0 (by omega) (by omega)).mono fun e W' ⟨he, hg⟩ => ?_
  subst he
  refine ⟨_, rfl, _, _, _, [], (p0 ++ []), [], hW', ?_, ?_, rfl, hg.frame _, fun h => by cases h⟩
  · exact trodAll_cons_mk (shut_bool Tryz.underlying4 _) trodAll_mk0
  · exact trodAll_cons_mk (Below.trod laidOut (by kernel_rfl) (of_decide_eq_true (by kernel_rfl)) h0 hg hlt0) trodAll_mk0
theorem reads (os : Os) {H : Type} (enc : TypeId × Value → H) : ∃ places, DataW.whole enc Tryz.prog ((layAll (World.settled Tryz.prog os).heap.size (World.holding Tryz.prog os ⟨newB, #[], []⟩)).forCall (fun _ _ => 0) ⟨#[], #[.slice none 0 0], []⟩).memory Tryz.f5.params.toList Rows.namesEachSpec.vars false #[.slice none 0 0].toList 8 = some ([.nil], [], places) :=
  ⟨[], by kernel_rfl⟩
set_option maxRecDepth 100000 in
theorem lifted (os : Os) (started : os.Started) (H : Type) (enc : TypeId × Value → H) (F : Stop.Interp) :
    ReturnsInHanded {} Tryz.checked os 5 .any ((Rows.OpenSpec.upto Rows.namesEachSpec).preRow enc Tryz.prog Tryz.f5 Rows.namesEachUptoRow.domain false Rows.namesEachUptoRow.laid) (((Rows.OpenSpec.upto Rows.namesEachSpec).at F).post enc Tryz.prog Tryz.f5 false true false false) := by
  obtain ⟨places, hx⟩ := reads os enc
  refine returnsInHanded_of_row (C := Tryz.checked) (s := Rows.OpenSpec.upto Rows.namesEachSpec) own started (by kernel_rfl) Tryz.func5
    (witness_row_atRef (enc := enc) (C := Tryz.checked) false (layAll (World.settled Tryz.prog os).heap.size (World.holding Tryz.prog os ⟨newB, #[], []⟩)) #[.slice none 0 0] rfl (by kernel_rfl) (by kernel_rfl) (by kernel_rfl)
      (OpenSpec.preRow_of_cond 8 hx (by kernel_rfl) (fun k hk => by cases hk; kernel_rfl) (by kernel_rfl) (laid_met os _))) ?_
  intro W base args ds gs before hval hW _ hcond _ hL hsh _
  exact contract H enc W base args ds gs before hval hW (am_g hL hsh (by kernel_rfl) (by kernel_rfl) (by kernel_rfl) (by kernel_rfl)) (hcond _ rfl)
theorem k_place : (Rows.namesEachUptoRow.inPlace == Tryz.prog.inPlace 5) = true := by kernel_rfl
theorem k_unf : (Rows.namesEachUptoRow.unfollowed == Tryz.prog.unfollowed 5) = true := by kernel_rfl
theorem k_rec : (Rows.namesEachUptoRow.recurses == Tryz.prog.recurses 5) = true := by kernel_rfl
theorem k_named : (Rows.namesEachUptoRow.named == Tryz.prog.varsNamed 5) = true := by kernel_rfl
theorem closed : joinedFacts Tryz.prog 5 Tryz.f5 (Rows.OpenSpec.upto Rows.namesEachSpec).bare Rows.namesEachUptoRow = true := by
  unfold joinedFacts
  rw [k_place, k_unf, k_rec, k_named, laidOut]
  kernel_rfl
theorem said : Rows.NamesEachUptoSaid :=
  OpenClaim.holds_of_cond 5 Tryz.f5 rfl rfl rfl rfl rfl rfl rfl ⟨rfl, rfl, rfl, rfl, rfl⟩ rfl rfl rfl rfl rfl (by kernel_rfl) Tryz.func5 closed
    (of_decide_eq_true (by kernel_rfl)) (by unfold Func.isWrapper; first | (rw [if_pos (by decide +kernel)]; kernel_rfl) | (rw [if_neg (by decide +kernel)]; exact ⟨rfl, rfl⟩))
    (fun os started H enc _ F => by rw [OpenClaim.pre_eq_preRow]; exact lifted os started H enc F)
theorem plain (f : FuncId) (fn : Func) (hf : Tryz.pinned.checked.prog.funcNamed "toolchest/toolchestlaw19.NamesEach" = some f) (hfn : Tryz.pinned.checked.prog.funcs[f]? = some fn) :
    true = Tryz.pinned.checked.prog.looks [] ∧ ∀ (j : Nat) t, fn.params[j]? = some t → Tryz.pinned.checked.prog.wantsStandIn t = false := by
  obtain rfl : f = 5 := Option.some.inj ((show Tryz.prog.funcNamed "toolchest/toolchestlaw19.NamesEach" = some 5 by kernel_rfl).symm.trans hf) |>.symm
  obtain rfl : fn = Tryz.f5 := (Option.some.inj (Tryz.func5.symm.trans hfn)).symm
  refine ⟨by kernel_rfl, fun j t ht => ?_⟩
  rw [Tryz.params5] at ht
  have hm := Array.mem_of_getElem? ht
  have h2 : t = 32 := by simpa using hm
  rcases h2 with rfl
  · exact (show Tryz.prog.wantsStandIn 32 = false by kernel_rfl)
end Go.Proofs.YteimilnecahifaaGreatDoor.EachHeld

namespace Go.Proofs.YteimilnecahifaaGreatDoor
theorem namesEachUpto_card : Rows.NamesEachUptoCardSaid :=
  Claim7.holds_tied_plain_at .later [] _ _ _ _ EachHeld.said (fun _ h => by cases h) (by kernel_rfl) (fun _ h => by cases h) namesEachUpto_row_tie rfl ⟨rfl, rfl⟩ (by kernel_rfl) rfl EachHeld.plain (by kernel_rfl)
end Go.Proofs.YteimilnecahifaaGreatDoor
