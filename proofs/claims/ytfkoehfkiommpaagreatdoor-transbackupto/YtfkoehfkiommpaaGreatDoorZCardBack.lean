/- The law TransBack holds for every input, where what it reads is of bulk at most 1048576: what is translated there is translated back. -/
import Derived.Test.YtfkoehfkiommpaaGreatDoorCards
import Derived.Test.YtfkoehfkiommpaaGreatDoorTie
import Derived.Test.YtfkoehfkiommpaaGreatDoorKMay
import Derived.Test.YtfkoehfkiommpaaGreatDoorZPlain
import Derived.Test.YtfkoehfkiommpaaGreatDoorZOpenB
namespace Go.Proofs.YtfkoehfkiommpaaGreatDoor.TransBackHeld
open Go.ChangeShapes Go.WideShapes Go.ChangeAt Go.RowKit
open Go.WideMaps Go.WideElems

theorem laid_met (os : Os) : laidMet Tryz.prog Rows.transBackUptoRow.laid ((TrLaid.layAll (World.holding Tryz.prog os ⟨#[], #[], []⟩)).forCall (fun _ _ => 0) ⟨#[], #[Value.slice none 0 0, Value.slice none 0 0, Value.slice none 0 0, .agg #[.int .i64 0, .int .i64 0, .int .i64 0]], []⟩).memory :=
  laidMet_of_run' 8 (by kernel_rfl) (by kernel_rfl)
theorem reads (os : Os) {H : Type} (enc : TypeId × Value → H) : ∃ places, DataW.whole enc Tryz.prog ((TrLaid.layAll (World.holding Tryz.prog os ⟨#[], #[], []⟩)).forCall (fun _ _ => 0) ⟨#[], #[Value.slice none 0 0, Value.slice none 0 0, Value.slice none 0 0, .agg #[.int .i64 0, .int .i64 0, .int .i64 0]], []⟩).memory Tryz.f4.params.toList Rows.transBackSpec.vars false #[Value.slice none 0 0, Value.slice none 0 0, Value.slice none 0 0, .agg #[.int .i64 0, .int .i64 0, .int .i64 0]].toList 8 = some ([.nil, .nil, .nil, .agg [.lit (.int .i64 0), .lit (.int .i64 0), .lit (.int .i64 0)]], [], places) :=
  ⟨[], by kernel_rfl⟩

set_option maxRecDepth 100000 in
theorem lifted (os : Os) (started : os.Started) (H : Type) (enc : TypeId × Value → H) (F : Stop.Interp) :
    ReturnsInHanded {} Tryz.checked os 4 .any ((Rows.OpenSpec.upto Rows.transBackSpec).preRow enc Tryz.prog Tryz.f4 Rows.transBackUptoRow.domain false Rows.transBackUptoRow.laid) (((Rows.OpenSpec.upto Rows.transBackSpec).at F).post enc Tryz.prog Tryz.f4 false true false false) := by
  obtain ⟨places, hx⟩ := reads os enc
  refine returnsInHanded_of_row (C := Tryz.checked) (s := Rows.OpenSpec.upto Rows.transBackSpec) TrLaid.own started (by kernel_rfl) Tryz.func4
    (witness_row_at (enc := enc) (C := Tryz.checked) false (TrLaid.layAll (World.holding Tryz.prog os ⟨#[], #[], []⟩)) #[Value.slice none 0 0, Value.slice none 0 0, Value.slice none 0 0, .agg #[.int .i64 0, .int .i64 0, .int .i64 0]] rfl (by kernel_rfl) (by kernel_rfl) (by kernel_rfl)
      (OpenSpec.preRow_of_cond 8 hx (by kernel_rfl) (fun k hk => by cases hk; kernel_rfl) (by kernel_rfl) (laid_met os))) ?_
  intro W base args ds gs before hval hW _ hcond _ _ hsh _
  exact Tr.contract_back says_tr H enc W base args ds gs before hval hW (TrLaid.maxlen W hsh) (hcond _ rfl)

theorem k_place : (Rows.transBackUptoRow.inPlace == Tryz.prog.inPlace 4) = true := by kernel_rfl
theorem k_unf : (Rows.transBackUptoRow.unfollowed == Tryz.prog.unfollowed 4) = true := by kernel_rfl
theorem k_rec : (Rows.transBackUptoRow.recurses == Tryz.prog.recurses 4) = true := by kernel_rfl
theorem k_named : (Rows.transBackUptoRow.named == Tryz.prog.varsNamed 4) = true := by kernel_rfl
theorem k_laid : laidOutB Tryz.prog = true := by kernel_rfl
theorem closed : joinedFacts Tryz.prog 4 Tryz.f4 (Rows.OpenSpec.upto Rows.transBackSpec).bare Rows.transBackUptoRow = true := by
  unfold joinedFacts
  rw [k_place, k_unf, k_rec, k_named, k_laid]
  kernel_rfl

theorem said : Rows.TransBackUptoSaid :=
  OpenClaim.holds_of_cond 4 Tryz.f4 rfl rfl rfl rfl rfl rfl rfl ⟨rfl, rfl, rfl, rfl, rfl⟩ rfl rfl rfl rfl rfl (by kernel_rfl) Tryz.func4 closed
    (of_decide_eq_true (by kernel_rfl)) (by unfold Func.isWrapper; first | (rw [if_pos (by decide +kernel)]; kernel_rfl) | (rw [if_neg (by decide +kernel)]; exact ⟨rfl, rfl⟩))
    (fun os started H enc _ F => by rw [OpenClaim.pre_eq_preRow]; exact lifted os started H enc F)

theorem plain (f : FuncId) (fn : Func) (hf : Tryz.pinned.checked.prog.funcNamed "toolchest/toolchestlaw10.TransBack" = some f) (hfn : Tryz.pinned.checked.prog.funcs[f]? = some fn) :
    true = Tryz.pinned.checked.prog.looks [] ∧ ∀ (j : Nat) t, fn.params[j]? = some t → Tryz.pinned.checked.prog.wantsStandIn t = false := by
  obtain rfl : f = 4 := Option.some.inj ((show Tryz.prog.funcNamed "toolchest/toolchestlaw10.TransBack" = some 4 by kernel_rfl).symm.trans hf) |>.symm
  obtain rfl : fn = Tryz.f4 := (Option.some.inj (Tryz.func4.symm.trans hfn)).symm
  refine ⟨by kernel_rfl, fun j t ht => ?_⟩
  rw [Tryz.params4] at ht
  have hm := Array.mem_of_getElem? ht
  have h2 : t = 23 ∨ t = 28 := by simpa using hm
  rcases h2 with rfl | rfl
  · exact (show Tryz.prog.wantsStandIn 23 = false by kernel_rfl)
  · exact (show Tryz.prog.wantsStandIn 28 = false by kernel_rfl)
end Go.Proofs.YtfkoehfkiommpaaGreatDoor.TransBackHeld

namespace Go.Proofs.YtfkoehfkiommpaaGreatDoor
theorem transBackUpto_card : Rows.TransBackUptoCardSaid :=
  Claim7.holds_tied_plain_at .later [] _ _ _ _ TransBackHeld.said (fun _ h => by cases h) (by kernel_rfl) (fun _ h => by cases h) transBackUpto_row_tie rfl ⟨rfl, rfl⟩ (by kernel_rfl) rfl TransBackHeld.plain (by kernel_rfl)
end Go.Proofs.YtfkoehfkiommpaaGreatDoor
