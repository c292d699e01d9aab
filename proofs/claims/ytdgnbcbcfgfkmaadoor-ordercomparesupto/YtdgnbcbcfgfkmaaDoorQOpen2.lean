/- Any options, any two lines: the walk. -/
import Derived.Deep.RegionHeld3
import Derived.Laws.AppendOwnNone
import Derived.Test.YtdgnbcbcfgfkmaaDoorQOpen
import Derived.Test.YtdgnbcbcfgfkmaaDoorQRead
import Derived.Test.YtdgnbcbcfgfkmaaDoorQCmp
namespace Go.Proofs.YtdgnbcbcfgfkmaaDoor
open Go.RowKit

/-- Bytes copied by an append onto nil. -/
theorem wp_copy {ops : Array Oper} {rest : List Oper} {o : Oper} {a : Act} {Q : Exit → Act → World → Prop} {w : World} (hgd : o.guard = none) (s x : Operand) (ho : o.op = .call { callee := .builtin .append, args := #[s, x], argTypes := #[23, 23] }) (hs : a.eval s = .slice none 0 0) {v : Value} {d : List UInt8} (hx : a.eval x = v) (hB : ByAt w v d) (hd : d.length ≤ 2097152)
    (h : ∀ v2 w2, ByAt w2 v2 d → Below w.heap.size w w2 → wpList Tryd.prog ops Q rest (a.put o.dst v2) w2) : wpList Tryd.prog ops Q (o :: rest) a w := by
  obtain ⟨i0, hi, hz0, hz1, hz2⟩ := info_parts2 info_u8
  rcases hB with ⟨rfl, rfl⟩ | ⟨b, off, cap, rfl, hc, hb, hcell⟩
  · exact wpList_append_own_none hgd s x 23 ho w.heap.size 5 i0 1 Tryd.underlying23 hi (.slice none 0 0) 0 [] hs (World.ownsRow_nil _ _ _ _) hx (h _ _ (.inl ⟨rfl, rfl⟩) (Below.refl _ _))
  · refine wpList_append_own w hgd s x 23 ho w.heap.size 5 i0 (.int .u8 0) 1 1 Tryd.underlying23 hi hz0 hz1 hz2 rfl (by decide) (.slice none 0 0) 0 [] hs (World.ownsRow_nil _ _ _ _) ⟨b, off, none⟩ d.length cap (u8s d) hx (by simp [u8s]) (fun j u hu => ?_) (by simp [u8s, Value.oneCell']) (by unfold maxLen; omega) (by omega) (Nat.le_refl _) (fun v2 w2 h1 h2 _ => ?_)
    · have hj : j < d.length := by have := (List.getElem?_eq_some_iff.1 hu).1; simpa [u8s] using this
      rw [Addr.add_lit, hcell j hj]
      unfold u8s at hu
      rw [arr_u8s] at hu
      simpa [hj] using hu
    · have e : w2.ownsRow w.heap.size 5 1 v2 d.length (u8s d) := by simpa using h1
      exact h v2 w2 (by_own e rfl) ⟨h2.os, h2.tape, h2.output, h2.size, fun j hj => h2.block j hj (by simp [Value.ownBlock])⟩
structure Two (OrdAt : World → Nat → Od → Prop) (w0 w : World) (p r : Nat) (o : Od) (va vb : Value) (a b : List UInt8) : Prop where
  o_ : OrdAt w p o
  r_ : OrR w r o
  a : ByAt w va a
  b : ByAt w vb b
  bl : Below w0.heap.size w0 w
theorem Two.on {OrdAt : World → Nat → Od → Prop} {w0 w : World} {p r : Nat} {o : Od} {va vb : Value} {a b : List UInt8} (S : Says OrdAt) (h : Two OrdAt w0 w p r o va vb a b) {w' : World} (hb : Below w.heap.size w w') : Two OrdAt w0 w' p r o va vb a b :=
  ⟨S.keep _ _ _ _ h.o_ hb, OrR.keep _ _ _ _ h.r_ hb, h.a.below hb, h.b.below hb, h.bl.trans (hb.mono h.bl.size)⟩

set_option maxHeartbeats 4000000 in
set_option maxRecDepth 100000 in
theorem compares_law {OrdAt : World → Nat → Od → Prop} (S : Says OrdAt) (v va vb : Value) (l : Opts) (a b : List UInt8) (w : World) (hl : l.length ≤ 2097152) (hq : ∀ q ∈ l, q.2.size ≤ 2097152) (la : a.length ≤ 2097152) (lb : b.length ≤ 2097152) (hO : OpAt w v l) (hA : ByAt w va a) (hB : ByAt w vb b) :
    Calls Tryd.prog 3 #[v, va, vb] w fun e w' => e = .returned (.bool true) ∧ Below w.heap.size w w' := by
  have HS := Lib.hid S
  have haw := awake_c S w
  have HI := Lib.hid (And.intro hO (And.intro hA hB))
  have HRc := Lib.hid (fun u h => read_c v l u hl hq h)
  clear S hO hA hB
  go_enter Tryd.func3, Tryd.ntmps3
  go_wp2_with fail
  refine haw.mono ?_
  rintro e w1 ⟨rfl, hb1⟩
  have hr := HS.out.read v l w1 hl hq (HI.out.1.below hb1)
  have HB1 := Lib.hid hb1
  clear haw hb1 hq
  cases hrd : readS l with
  | none =>
    rw [hrd] at hr HRc
    go_wp2_with fail
    refine hr.mono ?_
    rintro e w2 ⟨rfl, hb2⟩
    have HB2 : Hid (Below w.heap.size w w2) := HB1.out.trans (hb2.mono HB1.out.size)
    have hrr := HRc.out w2 (HI.out.1.below HB2.out)
    clear hr HRc HB1 hb2
    go_wp2_with fail
    refine hrr.mono ?_
    rintro e w3 ⟨rfl, hb3⟩
    have HB3 : Hid (Below w.heap.size w w3) := HB2.out.trans (hb3.mono HB2.out.size)
    clear hrr hb3 HB2
    go_wp2_with fail
    go_ret
    exact ⟨rfl, HB3.out⟩
  | some o =>
    rw [hrd] at hr HRc
    clear hrd
    go_wp2_with fail
    refine hr.mono ?_
    rintro e w2 ⟨⟨p, rfl, hP⟩, hb2⟩
    have HB2 : Hid (Below w.heap.size w w2) := HB1.out.trans (hb2.mono HB1.out.size)
    have hrr := HRc.out w2 (HI.out.1.below HB2.out)
    clear hr HRc HB1 hb2
    go_wp2_with fail
    refine hrr.mono ?_
    rintro e w3 ⟨⟨r, rfl, hPR⟩, hb3⟩
    have HB3 : Hid (Below w.heap.size w w3) := HB2.out.trans (hb3.mono HB2.out.size)
    have T3 : Hid (Two OrdAt w w3 p r o va vb a b) := ⟨HS.out.keep _ _ _ _ hP hb3, hPR, HI.out.2.1.below HB3.out, HI.out.2.2.below HB3.out, HB3.out⟩
    clear hrr hb3 HB2 HB3 hP hPR HI
    go_wp2_with (first
      | (at_builtin; refine wp_copy rfl _ _ rfl rfl rfl T3.out.a la ?_; intro vx w4 hx4 hb4; have T4 := Lib.hid (T3.out.on HS.out hb4); have HX4 := Lib.hid hx4; clear hx4 hb4)
      | (at_builtin; refine wp_copy rfl _ _ rfl rfl rfl T4.out.b lb ?_; intro vy w5 hy5 hb5; have T5 := Lib.hid (T4.out.on HS.out hb5); have HX5 := Lib.hid (HX4.out.below hb5); have HY5 := Lib.hid hy5; clear hy5 hb5 HX4 T4 T3))
    refine (HS.out.keys p o vx vy a b w5 T5.out.o_ la lb HX5.out HY5.out).mono ?_
    rintro e w6 ⟨n1, rfl, _, hn1, hb6⟩
    have T6 := Lib.hid (T5.out.on HS.out hb6)
    have HX6 := Lib.hid (HX5.out.below hb6)
    have HY6 := Lib.hid (HY5.out.below hb6)
    have hs1 := sign_c n1 w6
    rw [hn1] at hs1
    clear hb6 hn1 T5 HX5 HY5
    go_wp2_with (go_at_call 10; refine hs1.mono ?_; rintro e w' ⟨rfl, hw'⟩; rw [hw']; clear hw' hs1)
    refine (HS.out.cmp p o vx vy a b w6 T6.out.o_ la lb HX6.out HY6.out).mono ?_
    rintro e w7 ⟨n2, rfl, _, hn2, hb7⟩
    have T7 := Lib.hid (T6.out.on HS.out hb7)
    have HX7 := Lib.hid (HX6.out.below hb7)
    have HY7 := Lib.hid (HY6.out.below hb7)
    have hs2 := sign_c n2 w7
    rw [hn2] at hs2
    clear hb7 hn2 T6 HX6 HY6
    have hbk := byKeys_c r o va vb a b w7 T7.out.r_ la lb T7.out.a T7.out.b
    have hcm := fun u (hu : Two OrdAt w u p r o va vb a b) => compareR_c r o va vb a b u hu.r_ la lb hu.a hu.b
    have HCM := Lib.hid hcm
    have hkr := o.cmK.rng a b
    have hcr := o.cmC.rng a b
    clear hcm
    generalize o.keysC a b = KK at *
    generalize o.cmp a b = CC at *
    go_wp2_with (go_at_call 10; refine hs2.mono ?_; rintro e w' ⟨rfl, hw'⟩; rw [hw']; clear hw' hs2)
    refine hbk.mono ?_
    rintro e w8 ⟨rfl, hb8⟩
    have T8 := Lib.hid (T7.out.on HS.out hb8)
    have HX8 := Lib.hid (HX7.out.below hb8)
    have HY8 := Lib.hid (HY7.out.below hb8)
    have hcm := HCM.out w8 T8.out
    clear hbk hb8 T7 HX7 HY7 HCM
    go_wp2_with fail
    refine hcm.mono ?_
    rintro e w9 ⟨rfl, hb9⟩
    have T9 := Lib.hid (T8.out.on HS.out hb9)
    have hcx := str_of (HX8.out.below hb9)
    have hcy := str_of (HY8.out.below hb9)
    have hca := str_of T9.out.a
    have hcb := str_of T9.out.b
    clear hcm hb9 T8 HX8 HY8
    go_wp2_with fail
    go_ret
    exact ⟨by first | rfl | simp, T9.out.bl⟩
end Go.Proofs.YtdgnbcbcfgfkmaaDoor
