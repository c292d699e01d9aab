/- The law TransSets holds for every input, where what it reads is of bulk at most 1048576: whatever string is given, its members are what the document says. -/
import Derived.Test.YtfkoehfkiommpaaGreatDoorCards
import Derived.Test.YtfkoehfkiommpaaGreatDoorTie
import Derived.Test.YtfkoehfkiommpaaGreatDoorKMay
import Derived.Test.YtfkoehfkiommpaaGreatDoorZPlain
import Derived.Test.YtfkoehfkiommpaaGreatDoorZOpen
namespace Go.Proofs.YtfkoehfkiommpaaGreatDoor.TransSetsHeld
open Go.ChangeShapes Go.WideShapes Go.ChangeAt Go.RowKit
open Go.WideMaps Go.WideElems

theorem laid_met (os : Os) : laidMet Tryz.prog Rows.transSetsUptoRow.laid ((TrLaid.layAll (World.holding Tryz.prog os ⟨#[], #[], []⟩)).forCall (fun _ _ => 0) ⟨#[], #[Value.string ⟨#[]⟩], []⟩).memory :=
  laidMet_of_run' 8 (by kernel_rfl) (by kernel_rfl)
theorem reads (os : Os) {H : Type} (enc : TypeId × Value → H) : ∃ places, DataW.whole enc Tryz.prog ((TrLaid.layAll (World.holding Tryz.prog os ⟨#[], #[], []⟩)).forCall (fun _ _ => 0) ⟨#[], #[Value.string ⟨#[]⟩], []⟩).memory Tryz.f3.params.toList Rows.transSetsSpec.vars false #[Value.string ⟨#[]⟩].toList 8 = some ([.lit (.string [])], [], places) :=
  ⟨[], by kernel_rfl⟩

set_option maxRecDepth 100000 in
theorem lifted (os : Os) (started : os.Started) (H : Type) (enc : TypeId × Value → H) (F : Stop.Interp) :
    ReturnsInHanded {} Tryz.checked os 3 .any ((Rows.OpenSpec.upto Rows.transSetsSpec).preRow enc Tryz.prog Tryz.f3 Rows.transSetsUptoRow.domain false Rows.transSetsUptoRow.laid) (((Rows.OpenSpec.upto Rows.transSetsSpec).at F).post enc Tryz.prog Tryz.f3 false true false false) := by
  obtain ⟨places, hx⟩ := reads os enc
  refine returnsInHanded_of_row (C := Tryz.checked) (s := Rows.OpenSpec.upto Rows.transSetsSpec) TrLaid.own started (by kernel_rfl) Tryz.func3
    (witness_row_at (enc := enc) (C := Tryz.checked) false (TrLaid.layAll (World.holding Tryz.prog os ⟨#[], #[], []⟩)) #[Value.string ⟨#[]⟩] rfl (by kernel_rfl) (by kernel_rfl) (by kernel_rfl)
      (OpenSpec.preRow_of_cond 8 hx (by kernel_rfl) (fun k hk => by cases hk; kernel_rfl) (by kernel_rfl) (laid_met os))) ?_
  intro W base args ds gs before hval hW _ hcond _ _ hsh _
  exact Tr.contract_sets says_tr H enc W base args ds gs before hval hW (TrLaid.maxlen W hsh) (hcond _ rfl)

theorem k_place : (Rows.transSetsUptoRow.inPlace == Tryz.prog.inPlace 3) = true := by kernel_rfl
theorem k_unf : (Rows.transSetsUptoRow.unfollowed == Tryz.prog.unfollowed 3) = true := by kernel_rfl
theorem k_rec : (Rows.transSetsUptoRow.recurses == Tryz.prog.recurses 3) = true := by kernel_rfl
theorem k_named : (Rows.transSetsUptoRow.named == Tryz.prog.varsNamed 3) = true := by kernel_rfl
theorem k_laid : laidOutB Tryz.prog = true := by kernel_rfl
theorem closed : joinedFacts Tryz.prog 3 Tryz.f3 (Rows.OpenSpec.upto Rows.transSetsSpec).bare Rows.transSetsUptoRow = true := by
  unfold joinedFacts
  rw [k_place, k_unf, k_rec, k_named, k_laid]
  kernel_rfl

theorem said : Rows.TransSetsUptoSaid :=
  OpenClaim.holds_of_cond 3 Tryz.f3 rfl rfl rfl rfl rfl rfl rfl ⟨rfl, rfl, rfl, rfl, rfl⟩ rfl rfl rfl rfl rfl (by kernel_rfl) Tryz.func3 closed
    (of_decide_eq_true (by kernel_rfl)) (by unfold Func.isWrapper; first | (rw [if_pos (by decide +kernel)]; kernel_rfl) | (rw [if_neg (by decide +kernel)]; exact ⟨rfl, rfl⟩))
    (fun os started H enc _ F => by rw [OpenClaim.pre_eq_preRow]; exact lifted os started H enc F)

theorem plain (f : FuncId) (fn : Func) (hf : Tryz.pinned.checked.prog.funcNamed "toolchest/toolchestlaw10.TransSets" = some f) (hfn : Tryz.pinned.checked.prog.funcs[f]? = some fn) :
    true = Tryz.pinned.checked.prog.looks [] ∧ ∀ (j : Nat) t, fn.params[j]? = some t → Tryz.pinned.checked.prog.wantsStandIn t = false := by
  obtain rfl : f = 3 := Option.some.inj ((show Tryz.prog.funcNamed "toolchest/toolchestlaw10.TransSets" = some 3 by kernel_rfl).symm.trans hf) |>.symm
  obtain rfl : fn = Tryz.f3 := (Option.some.inj (Tryz.func3.symm.trans hfn)).symm
  refine ⟨by kernel_rfl, fun j t ht => ?_⟩
  rw [Tryz.params3] at ht
  have hm := Array.mem_of_getElem? ht
  have h2 : t = 9 := by simpa using hm
  rcases h2 with rfl
  · exact (show Tryz.prog.wantsStandIn 9 = false by kernel_rfl)
end Go.Proofs.YtfkoehfkiommpaaGreatDoor.TransSetsHeld

namespace Go.Proofs.YtfkoehfkiommpaaGreatDoor
theorem transSetsUpto_card : Rows.TransSetsUptoCardSaid :=
  Claim7.holds_tied_plain_at .later [] _ _ _ _ TransSetsHeld.said (fun _ h => by cases h) (by kernel_rfl) (fun _ h => by cases h) transSetsUpto_row_tie rfl ⟨rfl, rfl⟩ (by kernel_rfl) rfl TransSetsHeld.plain (by kernel_rfl)
end Go.Proofs.YtfkoehfkiommpaaGreatDoor
