/- Two lines compared, by the reference. -/
import Derived.Test.YtdgnbcbcfgfkmaaDoorQByK
namespace Go.Proofs.YtdgnbcbcfgfkmaaDoor
open Go.RowKit

set_option maxHeartbeats 2000000 in
set_option maxRecDepth 100000 in
theorem compareR_c (p : Nat) (o : Od) (va vb : Value) (a b : List UInt8) (w : World) (hO : OrR w p o) (ha : a.length ≤ 2097152) (hb : b.length ≤ 2097152) (hA : ByAt w va a) (hB : ByAt w vb b) :
    Calls Tryd.prog 14 #[.pointer (some ⟨p, 0, none⟩), va, vb] w fun e w' => e = .returned (.int .i64 (o.cmp a b)) ∧ Below w.heap.size w w' := by
  have hbk := byKeys_c p o va vb a b w hO ha hb hA hB
  have HR := Lib.hid (show o.cmp a b = if o.keysC a b = 0 then flip1 o.fl.r (cmpL a b) else o.keysC a b from rfl)
  have r1 := o.cmK.rng a b
  have r2 := cmpL_rng a b
  have H0 : Hid (Bk w p o va vb a b w) := ⟨hO, hA, hB, Below.refl _ _⟩
  have htx := fun u => texts_c ⟨a.toArray⟩ ⟨b.toArray⟩ u
  have htx2 : ∀ u, Calls Tryd.prog 27 #[.string ⟨a.toArray⟩, .string ⟨b.toArray⟩] u fun e w' => e = .returned (.int .i64 (cmpL a b)) ∧ w' = u := htx
  have HT := Lib.hid htx2
  clear hO hA hB htx htx2
  generalize o.cmp a b = R at HR ⊢
  generalize o.keysC a b = KK at *
  generalize cmpL a b = C at *
  go_enter Tryd.func14, Tryd.ntmps14
  go_wp2_with fail
  refine hbk.mono ?_
  rintro e w1 ⟨rfl, hb1⟩
  have H1 := Lib.hid (H0.out.on hb1)
  clear hbk hb1 H0
  by_cases hz : KK = 0
  · subst hz
    rw [if_pos rfl] at HR
    obtain ⟨kv, hp, _⟩ := H1.out.o.at_
    have c6 : w1.cell? ⟨p, 6, none⟩ = some (.bool o.fl.r) := by simp [World.cell?, hp]
    have hca := str_of H1.out.a
    have hcb := str_of H1.out.b
    have ht := HT.out w1
    have hwn : IntKind.i64.wrap (-C) = -C := IntWalk.i64_in _ (by omega)
    clear hp HT
    cases hr : o.fl.r with
    | false =>
      rw [hr] at HR
      go_wp2_with (go_at_call 27; refine ht.mono ?_; rintro e w' ⟨rfl, hw'⟩; rw [hw']; clear hw')
      go_ret
      exact ⟨by have e := HR.out; simp [flip1] at e; subst e; rfl, H1.out.bl⟩
    | true =>
      rw [hr] at HR
      go_wp2_with (go_at_call 27; refine ht.mono ?_; rintro e w' ⟨rfl, hw'⟩; rw [hw']; clear hw')
      go_ret
      exact ⟨by have e := HR.out; simp [flip1] at e; subst e; first | done | rfl, H1.out.bl⟩
  · rw [if_neg hz] at HR
    have hzb : (KK != 0) = true := by simpa using hz
    go_wp2_with fail
    go_ret
    exact ⟨by have e := HR.out; subst e; rfl, H1.out.bl⟩
end Go.Proofs.YtdgnbcbcfgfkmaaDoor
