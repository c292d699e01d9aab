/- The law TransApart holds for every input, where what it reads is of bulk at most 1048576: what -d leaves, what -cd leaves and what -s leaves of an input. -/
import Derived.Test.YtfkoehfkiommpaaGreatDoorCards
import Derived.Test.YtfkoehfkiommpaaGreatDoorTie
import Derived.Test.YtfkoehfkiommpaaGreatDoorKMay
import Derived.Test.YtfkoehfkiommpaaGreatDoorZPlain
import Derived.Test.YtfkoehfkiommpaaGreatDoorZOpen
namespace Go.Proofs.YtfkoehfkiommpaaGreatDoor.TransApartHeld
open Go.ChangeShapes Go.WideShapes Go.ChangeAt Go.RowKit
open Go.WideMaps Go.WideElems

theorem laid_met (os : Os) : laidMet Tryz.prog Rows.transApartUptoRow.laid ((TrLaid.layAll (World.holding Tryz.prog os ⟨#[], #[], []⟩)).forCall (fun _ _ => 0) ⟨#[], #[Value.slice none 0 0, Value.slice none 0 0, .agg #[.int .i64 0, .int .i64 0, .int .i64 0]], []⟩).memory :=
  laidMet_of_run' 8 (by kernel_rfl) (by kernel_rfl)
theorem reads (os : Os) {H : Type} (enc : TypeId × Value → H) : ∃ places, DataW.whole enc Tryz.prog ((TrLaid.layAll (World.holding Tryz.prog os ⟨#[], #[], []⟩)).forCall (fun _ _ => 0) ⟨#[], #[Value.slice none 0 0, Value.slice none 0 0, .agg #[.int .i64 0, .int .i64 0, .int .i64 0]], []⟩).memory Tryz.f5.params.toList Rows.transApartSpec.vars false #[Value.slice none 0 0, Value.slice none 0 0, .agg #[.int .i64 0, .int .i64 0, .int .i64 0]].toList 8 = some ([.nil, .nil, .agg [.lit (.int .i64 0), .lit (.int .i64 0), .lit (.int .i64 0)]], [], places) :=
  ⟨[], by kernel_rfl⟩

set_option maxRecDepth 100000 in
theorem lifted (os : Os) (started : os.Started) (H : Type) (enc : TypeId × Value → H) (F : Stop.Interp) :
    ReturnsInHanded {} Tryz.checked os 5 .any ((Rows.OpenSpec.upto Rows.transApartSpec).preRow enc Tryz.prog Tryz.f5 Rows.transApartUptoRow.domain false Rows.transApartUptoRow.laid) (((Rows.OpenSpec.upto Rows.transApartSpec).at F).post enc Tryz.prog Tryz.f5 false true false false) := by
  obtain ⟨places, hx⟩ := reads os enc
  refine returnsInHanded_of_row (C := Tryz.checked) (s := Rows.OpenSpec.upto Rows.transApartSpec) TrLaid.own started (by kernel_rfl) Tryz.func5
    (witness_row_at (enc := enc) (C := Tryz.checked) false (TrLaid.layAll (World.holding Tryz.prog os ⟨#[], #[], []⟩)) #[Value.slice none 0 0, Value.slice none 0 0, .agg #[.int .i64 0, .int .i64 0, .int .i64 0]] rfl (by kernel_rfl) (by kernel_rfl) (by kernel_rfl)
      (OpenSpec.preRow_of_cond 8 hx (by kernel_rfl) (fun k hk => by cases hk; kernel_rfl) (by kernel_rfl) (laid_met os))) ?_
  intro W base args ds gs before hval hW _ hcond _ _ hsh _
  exact Tr.contract_apart says_tr H enc W base args ds gs before hval hW (TrLaid.maxlen W hsh) (hcond _ rfl)

theorem k_place : (Rows.transApartUptoRow.inPlace == Tryz.prog.inPlace 5) = true := by kernel_rfl
theorem k_unf : (Rows.transApartUptoRow.unfollowed == Tryz.prog.unfollowed 5) = true := by kernel_rfl
theorem k_rec : (Rows.transApartUptoRow.recurses == Tryz.prog.recurses 5) = true := by kernel_rfl
theorem k_named : (Rows.transApartUptoRow.named == Tryz.prog.varsNamed 5) = true := by kernel_rfl
theorem k_laid : laidOutB Tryz.prog = true := by kernel_rfl
theorem closed : joinedFacts Tryz.prog 5 Tryz.f5 (Rows.OpenSpec.upto Rows.transApartSpec).bare Rows.transApartUptoRow = true := by
  unfold joinedFacts
  rw [k_place, k_unf, k_rec, k_named, k_laid]
  kernel_rfl

theorem said : Rows.TransApartUptoSaid :=
  OpenClaim.holds_of_cond 5 Tryz.f5 rfl rfl rfl rfl rfl rfl rfl ⟨rfl, rfl, rfl, rfl, rfl⟩ rfl rfl rfl rfl rfl (by kernel_rfl) Tryz.func5 closed
    (of_decide_eq_true (by kernel_rfl)) (by unfold Func.isWrapper; first | (rw [if_pos (by decide +kernel)]; kernel_rfl) | (rw [if_neg (by decide +kernel)]; exact ⟨rfl, rfl⟩))
    (fun os started H enc _ F => by rw [OpenClaim.pre_eq_preRow]; exact lifted os started H enc F)

theorem plain (f : FuncId) (fn : Func) (hf : Tryz.pinned.checked.prog.funcNamed "toolchest/toolchestlaw10.TransApart" = some f) (hfn : Tryz.pinned.checked.prog.funcs[f]? = some fn) :
    true = Tryz.pinned.checked.prog.looks [] ∧ ∀ (j : Nat) t, fn.params[j]? = some t → Tryz.pinned.checked.prog.wantsStandIn t = false := by
  obtain rfl : f = 5 := Option.some.inj ((show Tryz.prog.funcNamed "toolchest/toolchestlaw10.TransApart" = some 5 by kernel_rfl).symm.trans hf) |>.symm
  obtain rfl : fn = Tryz.f5 := (Option.some.inj (Tryz.func5.symm.trans hfn)).symm
  refine ⟨by kernel_rfl, fun j t ht => ?_⟩
  rw [Tryz.params5] at ht
  have hm := Array.mem_of_getElem? ht
  have h2 : t = 23 ∨ t = 28 := by simpa using hm
  rcases h2 with rfl | rfl
  · exact (show Tryz.prog.wantsStandIn 23 = false by kernel_rfl)
  · exact (show Tryz.prog.wantsStandIn 28 = false by kernel_rfl)
end Go.Proofs.YtfkoehfkiommpaaGreatDoor.TransApartHeld

namespace Go.Proofs.YtfkoehfkiommpaaGreatDoor
theorem transApartUpto_card : Rows.TransApartUptoCardSaid :=
  Claim7.holds_tied_plain_at .later [] _ _ _ _ TransApartHeld.said (fun _ h => by cases h) (by kernel_rfl) (fun _ h => by cases h) transApartUpto_row_tie rfl ⟨rfl, rfl⟩ (by kernel_rfl) rfl TransApartHeld.plain (by kernel_rfl)
end Go.Proofs.YtfkoehfkiommpaaGreatDoor
