/- What KernPipes is told in: numbers, bytes, how much is left. -/
import Derived.Maps.AppendAt
import Derived.Lib.ConvBytes
import Derived.Lib.SmallJoins
import Derived.Laws.BytesArg
import Derived.Laws.IdiomStrings
import Derived.Test.YtbbmihlabllliaaGreatDoorKEnd
namespace Go.Proofs.YtbbmihlabllliaaGreatDoor
open Go.RowKit Go.Shelf Go.Maps

/-- What is asked of the examples. -/
def AwakeK : Prop := ∀ (m : Int) (w : World), w.cell? ⟨0, 0, none⟩ = some (.int .i64 m) → Calls Tryz.prog 6 #[] w fun e w' => e = .returned (.bool true) ∧ Below w.heap.size w w'

/-- Numbers that a slice holds. -/
def Zs (B : Nat) (w : World) (v : Value) (ns : List Int) : Prop :=
  ∃ a cap, v = .slice a ns.length cap ∧ (ns.length = 0 ∨ ∃ b o, a = some ⟨b, o, none⟩ ∧ b < B ∧ ∀ j, j < ns.length → w.cell? ⟨b, o + j, none⟩ = some (.int .i64 (ns[j]?.getD 0)))
theorem Zs.below {B : Nat} {w w' : World} {v : Value} {ns : List Int} (h : Zs B w v ns) (hb : Below B w w') : Zs B w' v ns := by
  obtain ⟨a, cap, hv, h0 | ⟨b, o, ha, hB, hc⟩⟩ := h
  · exact ⟨a, cap, hv, .inl h0⟩
  · exact ⟨a, cap, hv, .inr ⟨b, o, ha, hB, fun j hj => (hb.cell (p := ⟨b, o + j, none⟩) hB).trans (hc j hj)⟩⟩
theorem Fl.below {B fb : Nat} {w w' : World} {v : Value} {l : List (Int × Int)} (h : Fl w v fb l) (hb : Below B w w') (hB : fb < B) : Fl w' v fb l := h.keep fun i _ e => (hb.cell (p := ⟨fb, i, none⟩) hB).trans e

/-- How much is left to be done, behind the sizes. -/
def Phi (N L Z j s q u : Nat) : Prop := Z ≤ j → (s = N ∧ q = N) ∨ (N - s) + (N - q) + (L - u) + (j - Z) ≤ 2 * N + L
/-- Only cut short and interrupted. -/
def mild (l : List (Int × Int)) (n : Nat) : Prop := ∀ j, j < n → (l[j]?.getD (0, 0)).1 = 1 ∨ (l[j]?.getD (0, 0)).1 = 2

theorem Rs.quiet {w0 : World} {bs : List UInt8} {F : PF} {t0 t1 pb : Nat} {x1 x2 x3 : Value} {w w' : World} {s q r u : Nat} {gv pv : Value} (h : Rs w0 bs F t0 t1 pb x1 x2 x3 w s q r u gv pv) (hU : Turn [] w w') : Rs w0 bs F t0 t1 pb x1 x2 x3 w' s q r u gv pv :=
  ⟨h.lp.turn hU (by simp) h.ps.hK h.ps.hP, h.ps.turn hU (by simp) (by simp), own_turn h.go hU (by simp), h.dj, h.qr, h.rs, h.sb⟩
/-- The bytes that came in. -/
def Bv (B : Nat) (w : World) (v : Value) (bs : List UInt8) : Prop :=
  (v = .slice none 0 0 ∧ bs = []) ∨ ∃ b o cap, v = .slice (some ⟨b, o, none⟩) bs.length cap ∧ bs.length ≤ cap ∧ b < B ∧ ∀ j, j < bs.length → w.cell? ⟨b, o + j, none⟩ = some (.int .u8 ((bs[j]?.getD 0).toNat : Int))
theorem Bv.below {B : Nat} {w w' : World} {v : Value} {bs : List UInt8} (h : Bv B w v bs) (hb : Below B w w') : Bv B w' v bs := by
  rcases h with h | ⟨b, o, cap, hv, hc, hB, hcell⟩
  · exact .inl h
  · exact .inr ⟨b, o, cap, hv, hc, hB, fun j hj => (hb.cell (p := ⟨b, o + j, none⟩) hB).trans (hcell j hj)⟩
theorem conv_b {W : World} {base n : Nat} {v : Value} {l : List UInt8} (h : W.ownsRow base 5 1 v n (u8s l)) (hn : l.length = n) : (convert 33 9 v).run Tryz.prog W = .ok (.string ⟨l.toArray⟩) W := by
  subst hn
  rcases h.2 with ⟨rfl, h0⟩ | ⟨g, cap, cur, rfl, _, hg, _, _, hcs, htk⟩
  · obtain rfl := List.eq_nil_of_length_eq_zero h0
    exact run_convert_bytes_nil W 33 5 Tryz.underlying33 Tryz.underlying5 0 0 9 Tryz.underlying9
  · refine run_convert_bytes_back (P := Tryz.prog) _ 33 9 5 ⟨g, 0, none⟩ cap l Tryz.underlying33 Tryz.underlying5 Tryz.underlying9 (fun j hj => ?_)
    have e : (u8s l)[j]? = some (.int .u8 (l[j].toNat : Int)) := by simp [u8s, hj]
    rw [← htk, List.getElem?_take, if_pos (by omega)] at e
    rw [Addr.add_lit]
    simp only [World.cell?, hg]
    simpa using e
theorem conv_c {W : World} {b o n cap : Nat} {l : List UInt8} (hn : l.length = n) (hc : ∀ j, j < n → W.cell? ⟨b, o + j, none⟩ = some (.int .u8 ((l[j]?.getD 0).toNat : Int))) : (convert 33 9 (.slice (some ⟨b, o, none⟩) n cap)).run Tryz.prog W = .ok (.string ⟨l.toArray⟩) W := by
  subst hn
  refine run_convert_bytes_back (P := Tryz.prog) _ 33 9 5 ⟨b, o, none⟩ cap l Tryz.underlying33 Tryz.underlying5 Tryz.underlying9 (fun j hj => ?_)
  rw [Addr.add_lit, hc j hj]
  simp [hj]
theorem conv_n (W : World) : (convert 33 9 (.slice none 0 0)).run Tryz.prog W = .ok (.string ⟨([] : List UInt8).toArray⟩) W :=
  run_convert_bytes_nil W 33 5 Tryz.underlying33 Tryz.underlying5 0 0 9 Tryz.underlying9
theorem sz_n (x : Int) : 0 ≤ (x.tmod 70 + 70).tmod 70 ∧ (x.tmod 70 + 70).tmod 70 < 70 ∧ -70 < x.tmod 70 ∧ x.tmod 70 < 70 := by
  have h1 : x.tmod 70 < 70 := Int.tmod_lt_of_pos x (by decide)
  have h2 : -70 < x.tmod 70 := by
    have := Int.tmod_lt_of_pos (-x) (b := 70) (by decide)
    rw [Int.neg_tmod] at this
    omega
  exact ⟨Int.tmod_nonneg _ (by omega), Int.tmod_lt_of_pos _ (by decide), h2, h1⟩

end Go.Proofs.YtbbmihlabllliaaGreatDoor
