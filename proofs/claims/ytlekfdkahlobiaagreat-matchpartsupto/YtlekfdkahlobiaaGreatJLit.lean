/- The law MatchLiteral. -/
import Derived.Deep.DeepCutAuto
import Derived.Deep.CutBlock
import Derived.Test.YtlekfdkahlobiaaGreatJLaw1
namespace Go.Proofs.YtlekfdkahlobiaaGreat.Re
open Go.RowKit

/-- What is asked of Literal. -/
def LitC (Amb : World → Prop) (ReAt : World → Value → Nd → Prop) : Prop := ∀ (s : ByteArray) (fold : Bool) (w : World), Amb w → s.size ≤ 1048576 → Calls Tryz.prog 6 #[.string s, .bool fold] w fun e w' => ∃ v, e = .returned v ∧ isPtr w' v ∧ ReAt w' v (literalS fold s.data.toList) ∧ Below w.heap.size w w'
theorem jsizes_one (fold : Bool) : ∀ s : List UInt8, Nd.size.sizes (s.map (oneN fold)) = s.length
  | [] => rfl
  | c :: s => by
    rw [List.map_cons, Nd.size.sizes, jsizes_one fold s]
    show (oneN fold c).size + s.length = s.length + 1
    have : (oneN fold c).size = 1 := rfl
    omega
theorem lit_ok (fold : Bool) (s : List UInt8) : (literalS fold s).wf = true ∧ (literalS fold s).size ≤ s.length + 1 := by
  refine ⟨?_, ?_⟩
  · unfold literalS
    exact wf_join (.inl rfl) (fun x hx => by obtain ⟨c, _, rfl⟩ := List.mem_map.1 hx; rfl)
  · unfold literalS
    match s with
    | [] => exact (by decide : (1 : Nat) ≤ 1)
    | [c] => exact (by decide : (1 : Nat) ≤ 2)
    | c :: d :: s =>
      show Nd.size ⟨4, noB, 0, 0, (c :: d :: s).map (oneN fold)⟩ ≤ _
      rw [Nd.size, if_neg (by decide), jsizes_one]
      omega
/-- Has the text been looked for up to here? -/
def Sought (b s : List UInt8) (f : Int) (A : Nat) : Prop := fromN f ≤ A ∧ ∀ i, fromN f ≤ i → i < A → i + s.length ≤ b.length → (b.drop i).take s.length ≠ s
section
variable {Amb : World → Prop} {ReAt PgAt : World → Value → Nd → Prop}
set_option maxHeartbeats 4000000 in
set_option maxRecDepth 100000 in
theorem literal_law (S : SaysM Amb ReAt PgAt) (hLit : LitC Amb ReAt) (s : ByteArray) (v : Value) (b : List UInt8) (f : Int) (w : World) (hA : Amb w) (hs : s.size ≤ 1048576) (hbl : b.length ≤ 1048576) (hb : ByAt w v b) (hf : IntKind.i64.min ≤ f ∧ f ≤ IntKind.i64.max) :
    Calls Tryz.prog 3 #[.string s, v, .int .i64 f] w fun e w' => e = .returned (.bool true) ∧ Below w.heap.size w w' := by
  have haw := awakeM_c S w hA
  have HS := Lib.hid S
  have HL := Lib.hid hLit
  obtain ⟨va, vc, rfl⟩ := hb.shape
  have HB := Lib.hid hb
  clear S hLit hb
  go_enter Tryz.func3, Tryz.ntmps3
  go_wp2_with fail
  refine haw.mono ?_
  rintro e w1 ⟨rfl, hB1⟩
  have hl := HL.out s false w1 (HS.out.keep _ _ hA hB1) hs
  have H1 := Lib.hid hB1
  clear haw hB1
  go_wp2_with fail
  refine hl.mono ?_
  rintro e w2 ⟨lv, rfl, hi2, hr2, hB2⟩
  obtain ⟨lb, rfl, hll⟩ := hi2
  have H2 : Hid (Below w.heap.size w w2) := H1.out.trans (hB2.mono H1.out.size)
  have hA2 := HS.out.keep _ _ hA H2.out
  by_cases hs1 : 1000 < s.size
  · have g0 : (1000 : Int) < (s.size : Int) := by omega
    clear hl hr2 hB2 H1
    go_wp2_with fail
    go_ret
    exact ⟨rfl, H2.out⟩
  have g0 : ¬ (1000 : Int) < (s.size : Int) := by omega
  by_cases hb1 : 1000 < b.length
  · have g1 : (1000 : Int) < (b.length : Int) := by omega
    clear hl hr2 hB2 H1
    go_wp2_with fail
    go_ret
    exact ⟨rfl, H2.out⟩
  have g1 : ¬ (1000 : Int) < (b.length : Int) := by omega
  have hsl : s.data.toList.length = s.size := rfl
  obtain ⟨hwf, hsz⟩ := lit_ok false s.data.toList
  have hn := HS.out.new (ptr lb) _ w2 hA2 ⟨lb, rfl, hll⟩ hr2 hwf (by omega)
  clear hl hr2 hB2 H1
  go_wp2_with fail
  refine hn.mono ?_
  rintro e w3 ⟨pv, rfl, hi3, hp3, hB3⟩
  obtain ⟨pb, rfl, hpl⟩ := hi3
  have H3 : Hid (Below w.heap.size w w3) := H2.out.trans (hB3.mono H2.out.size)
  have hfd := HS.out.find (ptr pb) _ _ b f w3 (HS.out.keep _ _ hA2 hB3) ⟨pb, rfl, hpl⟩ hp3 hwf (by omega) (HB.out.below H3.out) (by omega) hf
  clear hn hp3 hB3 H2 hA2 hwf hsz
  go_wp2_with fail
  refine hfd.mono ?_
  rintro e w4 ⟨a, z, is, rfl, hF, hB4⟩
  have H4 : Hid (Below w.heap.size w w4) := H3.out.trans (hB4.mono H3.out.size)
  have HF := Lib.hid hF
  have HBy := Lib.hid (HB.out.below H4.out)
  clear hfd hF hB4 H3 HS HL hll hpl HBy
  have hf1 := hf.1
  have hf2 := hf.2
  have HQ0 : Hid (Sought b s.data.toList f f.toNat) := ⟨Nat.le_refl _, fun i h1 h2 => by have : f.toNat ≤ i := h1; omega⟩
  have hbsz : s.size ≤ 1000 := by omega
  by_cases hf0 : f < 0
  case' pos =>
    have hft : f.toNat = 0 := by omega
    rw [hft] at HQ0
    go_upto_block 0 with fail
  case' neg =>
    obtain ⟨F, hF⟩ : ∃ F : Nat, f = (F : Int) := ⟨f.toNat, by omega⟩
    have hft : f.toNat = F := by omega
    rw [hft] at HQ0
    have hF1 : (F : Int) ≤ IntKind.i64.max := by omega
    go_upto_block 0 with fail
  all_goals
    go_cut [13] (fun v13 wr => ∃ A : Nat, v13 = .int .i64 (A : Int) ∧ (A : Int) ≤ IntKind.i64.max ∧ Hid (Below w.heap.size w wr ∧ Sought b s.data.toList f A ∧ (b.length < A + s.size ∨ (A + s.size ≤ b.length ∧ (b.drop A).take s.size = s.data.toList))))
    case first =>
      go_wp2_with fail
      go_loopw [13] (fun v13 wr => ∃ A : Nat, v13 = .int .i64 (A : Int) ∧ (A : Int) ≤ IntKind.i64.max ∧ Hid (Below w.heap.size w wr ∧ Sought b s.data.toList f A)) (fun v13 _ => b.length + 1 - (intOf v13).toNat)
      case atStart => exact ⟨_, by first | rfl | (rw [hF]), (by first | omega | decide), (show _ ∧ _ from ⟨H4.out, HQ0.out⟩)⟩
      case round =>
        obtain ⟨A, rfl, hAm, HO⟩ := hrel
        clear HQ0
        by_cases hle : A + s.size ≤ b.length
        · have q1 : (A : Int) ≤ (b.length : Int) - (s.size : Int) := by omega
          have hAl : A ≤ 1000 := by omega
          have wA : IntKind.i64.wrap ((A : Int) + (s.size : Int)) = (A : Int) + (s.size : Int) := IntWalk.i64_in _ (by omega)
          have HBr := HB.out.below HO.out.1
          by_cases hs0 : s.size = 0
          · -- an empty text
            have hse : s.data.toList = [] := List.length_eq_zero_iff.1 hs0
            have hs' : s = ⟨#[]⟩ := by
              obtain ⟨⟨d⟩⟩ := s
              have hd : d = [] := hse
              rw [hd]
            have HQ : Hid (Below w.heap.size w wr ∧ Sought b s.data.toList f A ∧ (b.length < A + s.size ∨ (A + s.size ≤ b.length ∧ (b.drop A).take s.size = s.data.toList))) := ⟨HO.out.1, HO.out.2, .inr ⟨hle, by rw [hs0, hse]; rfl⟩⟩
            have hcv0 : ∀ ad cap, (convert 22 9 (.slice (some ad) s.size cap)).run Tryz.prog wr = .ok (.string s) wr := fun ad cap => by
              have h := run_convert_bytes_back (P := Tryz.prog) wr 22 9 5 ad cap [] Tryz.underlying22 Tryz.underlying5 Tryz.underlying9 (fun j hj => by simp at hj)
              rw [show ([] : List UInt8).length = s.size from hs0.symm, show (⟨([] : List UInt8).toArray⟩ : ByteArray) = s from hs'.symm] at h
              exact h
            have hcvn : ∀ n cap, (convert 22 9 (.slice none n cap)).run Tryz.prog wr = .ok (.string s) wr := fun n cap => by
              have h := run_convert_bytes_nil wr 22 5 Tryz.underlying22 Tryz.underlying5 n cap 9 Tryz.underlying9
              rw [hs']
              exact h
            have hne : (s.toList != s.toList) = false := by simp
            have a1 : (A : Int) ≤ (A : Int) + (s.size : Int) := by omega
            have n2 : ((A : Int) + (s.size : Int)).toNat = A + s.size := by omega
            have n3 : A + s.size - A = s.size := by omega
            rcases HBr with ⟨e1, e2⟩ | ⟨g, off, cap, e1, hcap, hgl, hcell⟩
            · simp only [Value.slice.injEq] at e1
              obtain ⟨rfl, e3, rfl⟩ := e1
              have a2 : (A : Int) + (s.size : Int) ≤ 0 := by omega
              have a3 : (A : Int) ≤ 0 := by omega
              clear hse hs' hs0 HO e2 e3
              go_wp2_with fail
              go_meet
              case rel => exact ⟨A, rfl, hAm, HQ⟩
            · simp only [Value.slice.injEq, true_and] at e1
              obtain ⟨rfl, rfl⟩ := e1
              have hlc : (A : Int) ≤ (vc : Int) := by omega
              have a2 : (A : Int) + (s.size : Int) ≤ (vc : Int) := by omega
              by_cases hAv : A = vc
              · have hAv3 : (A : Int) = (vc : Int) := by omega
                clear hse hs' hs0 HO hcell
                go_wp2_with fail
                go_meet
                case rel => exact ⟨A, by rw [hAv], hAm, HQ⟩
              · have hAv3 : ¬ (A : Int) = (vc : Int) := by omega
                have hAv4 : A < vc := by omega
                clear hse hs' hs0 HO hcell
                go_wp2_with fail
                go_meet
                case rel => exact ⟨A, rfl, hAm, HQ⟩
          rcases HBr with ⟨e1, e2⟩ | ⟨g, off, cap, e1, hcap, hgl, hcell⟩
          · have hb0 : b.length = 0 := by rw [e2]; rfl
            omega
          · simp only [Value.slice.injEq, true_and] at e1
            obtain ⟨rfl, rfl⟩ := e1
            have hAv : A < vc := by omega
            have hAv2 : ¬ A = vc := by omega
            have hAv3 : ¬ (A : Int) = (vc : Int) := by omega
            obtain ⟨X, hX⟩ : ∃ X : ByteArray, X = ⟨((b.drop A).take s.size).toArray⟩ := ⟨_, rfl⟩
            have hlen : ((b.drop A).take s.size).length = s.size := by simp; omega
            have hcv : (convert 22 9 (.slice (some ⟨g, off + A, none⟩) s.size (vc - A))).run Tryz.prog wr = .ok (.string X) wr := by
              have h := run_convert_bytes_back (P := Tryz.prog) wr 22 9 5 ⟨g, off + A, none⟩ (vc - A) ((b.drop A).take s.size) Tryz.underlying22 Tryz.underlying5 Tryz.underlying9 (fun j hj => by
                rw [hlen] at hj
                have h1 := hcell (A + j) (by omega)
                rw [Addr.add_lit, show off + A + j = off + (A + j) by omega, h1]
                rw [List.getElem_take, List.getElem_drop, List.getElem?_eq_getElem (by omega)]
                rfl)
              rw [hlen, ← hX] at h
              exact h
            have a1 : (A : Int) ≤ (A : Int) + (s.size : Int) := by omega
            have a2 : (A : Int) + (s.size : Int) ≤ (vc : Int) := by omega
            have n2 : ((A : Int) + (s.size : Int)).toNat = A + s.size := by omega
            have n3 : A + s.size - A = s.size := by omega
            by_cases heq : (b.drop A).take s.size = s.data.toList
            · have hXs : X = s := by rw [hX, heq]
              have HQ : Hid (Below w.heap.size w wr ∧ Sought b s.data.toList f A ∧ (b.length < A + s.size ∨ (A + s.size ≤ b.length ∧ (b.drop A).take s.size = s.data.toList))) := ⟨HO.out.1, HO.out.2, .inr ⟨hle, heq⟩⟩
              rw [hXs] at hcv
              have hne : (s.toList != s.toList) = false := by simp
              clear hX heq hXs HO hcell hlen
              go_wp2_with fail
              go_meet
              case rel => exact ⟨A, rfl, hAm, HQ⟩
            · have hne : (X.toList == s.toList) = false := by
                rw [beq_eq_false_iff_ne]
                intro e
                rw [ByteArray.toList_eq, ByteArray.toList_eq, hX] at e
                exact heq (by simpa using e)
              have HQ : Hid (Below w.heap.size w wr ∧ Sought b s.data.toList f (A + 1)) := by
                refine ⟨HO.out.1, Nat.le_succ_of_le HO.out.2.1, fun i h1 h2 h3 => ?_⟩
                by_cases hi : i < A
                · exact HO.out.2.2 i h1 hi h3
                · obtain rfl : i = A := by omega
                  rw [show s.data.toList.length = s.size from rfl]
                  exact heq
              clear hX heq HO hcell hlen
              go_wp2_with fail
              refine ⟨⟨A + 1, by go_num, by have : IntKind.i64.max = 9223372036854775807 := rfl; omega, HQ⟩, ?_⟩
              simp [intOf]
              omega
        · have q1 : ¬ (A : Int) ≤ (b.length : Int) - (s.size : Int) := by omega
          go_wp2_with fail
          go_meet
          case rel => exact ⟨A, rfl, hAm, (show _ ∧ _ from ⟨HO.out.1, HO.out.2, .inl (by omega)⟩)⟩
    case rest =>
      obtain ⟨A, rfl, hAm, HO⟩ := hcut
      obtain ⟨hBc, hSo, hex⟩ := HO.out
      have hml : IntKind.i64.max = 9223372036854775807 := rfl
      rcases hex with hno | ⟨hle, heq⟩
      · have hFn : FindS (literalS false s.data.toList) b f 0 0 false := find_lit_no fun i h1 h2 => by
          rw [show s.data.toList.length = s.size from rfl] at h2
          exact hSo.2 i h1 (by omega) h2
        obtain ⟨rfl, rfl, rfl⟩ := find_same HF.out hFn
        have q1 : (b.length : Int) - (s.size : Int) < (A : Int) := by omega
        have HBc := Lib.hid hBc
        clear HF hFn HO hSo hBc H4 HQ0 HB
        go_wp2_with fail
        go_ret
        exact ⟨rfl, HBc.out⟩
      · have hFy : FindS (literalS false s.data.toList) b f A ((A + s.data.toList.length : Nat) : Int) true := find_lit_yes hSo.1 (by rw [show s.data.toList.length = s.size from rfl]; exact hle) (by rw [show s.data.toList.length = s.size from rfl]; exact heq) (fun i h1 h2 => hSo.2 i h1 h2 (by rw [show s.data.toList.length = s.size from rfl]; omega))
        rw [show ((A + s.data.toList.length : Nat) : Int) = (A : Int) + (s.size : Int) by rw [show s.data.toList.length = s.size from rfl]; omega] at hFy
        obtain ⟨rfl, rfl, rfl⟩ := find_same HF.out hFy
        have q1 : ¬ (b.length : Int) - (s.size : Int) < (A : Int) := by omega
        have HBc := Lib.hid hBc
        have hAl : A ≤ 1000 := by omega
        clear HF hFy HO hSo hBc H4 HQ0 HB heq
        go_wp2_with fail
        go_ret
        exact ⟨by simp, HBc.out⟩
end
end Go.Proofs.YtlekfdkahlobiaaGreat.Re
