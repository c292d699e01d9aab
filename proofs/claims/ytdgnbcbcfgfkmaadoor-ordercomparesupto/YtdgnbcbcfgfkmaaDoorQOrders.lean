/- Of any three lines: the walk. -/
import Derived.Deep.CutBlock
import Derived.Deep.DeepCutAuto
import Derived.Test.YtdgnbcbcfgfkmaaDoorQAwake
namespace Go.Proofs.YtdgnbcbcfgfkmaaDoor
open Go.RowKit

theorem conv_nil (w : World) : (convert 23 9 (.slice none 0 0)).run Tryd.prog w = .ok (.string ⟨#[]⟩) w := by kernel_rfl
/-- Bytes made a text. -/
theorem str_of {w : World} {v : Value} {d : List UInt8} (h : ByAt w v d) : (convert 23 9 v).run Tryd.prog w = .ok (.string ⟨d.toArray⟩) w := by
  rcases h with ⟨rfl, rfl⟩ | ⟨b, off, cap, rfl, _, _, hc⟩
  · exact conv_nil w
  · refine run_convert_bytes_back (P := Tryd.prog) _ 23 9 5 ⟨b, off, none⟩ cap d Tryd.underlying23 Tryd.underlying5 Tryd.underlying9 (fun j hj => ?_)
    rw [Addr.add_lit, hc j hj]
    simp [hj]
structure Tri (OrdAt : World → Nat → Od → Prop) (w0 w : World) (p : Nat) (o : Od) (va vb vc : Value) (a b c : List UInt8) : Prop where
  o : OrdAt w p o
  a : ByAt w va a
  b : ByAt w vb b
  c : ByAt w vc c
  bl : Below w0.heap.size w0 w
section
variable {OrdAt : World → Nat → Od → Prop} {w0 w : World} {p : Nat} {o : Od} {va vb vc : Value} {a b c : List UInt8}
theorem Tri.on (S : Says OrdAt) (h : Tri OrdAt w0 w p o va vb vc a b c) {w' : World} (hb : Below w.heap.size w w') : Tri OrdAt w0 w' p o va vb vc a b c :=
  ⟨S.keep _ _ _ _ h.o hb, h.a.below hb, h.b.below hb, h.c.below hb, h.bl.trans (hb.mono h.bl.size)⟩
theorem tri_cmp (S : Says OrdAt) (h : Tri OrdAt w0 w p o va vb vc a b c) {vx vy : Value} {x y : List UInt8} (hx : ByAt w vx x) (hy : ByAt w vy y) (lx : x.length ≤ 2097152) (ly : y.length ≤ 2097152) :
    Calls Tryd.prog 12 #[.pointer (some ⟨p, 0, none⟩), vx, vy] w fun e w' => ∃ n : Int, e = .returned (.int .i64 n) ∧ sgI n = o.cmp x y ∧ Tri OrdAt w0 w' p o va vb vc a b c :=
  (S.cmp p o vx vy x y w h.o lx ly hx hy).mono fun _ _ ⟨n, h1, _, h3, h4⟩ => ⟨n, h1, h3, h.on S h4⟩
theorem tri_keys (S : Says OrdAt) (h : Tri OrdAt w0 w p o va vb vc a b c) {vx vy : Value} {x y : List UInt8} (hx : ByAt w vx x) (hy : ByAt w vy y) (lx : x.length ≤ 2097152) (ly : y.length ≤ 2097152) :
    Calls Tryd.prog 11 #[.pointer (some ⟨p, 0, none⟩), vx, vy] w fun e w' => ∃ n : Int, e = .returned (.int .i64 n) ∧ sgI n = o.keysC x y ∧ Tri OrdAt w0 w' p o va vb vc a b c :=
  (S.keys p o vx vy x y w h.o lx ly hx hy).mono fun _ _ ⟨n, h1, _, h3, h4⟩ => ⟨n, h1, h3, h.on S h4⟩
end
theorem arr_beq (a b : List UInt8) : ((⟨a.toArray⟩ : ByteArray).toList == (⟨b.toArray⟩ : ByteArray).toList) = decide (a = b) := by
  rw [ByteArray.toList_eq, ByteArray.toList_eq]
  show (a == b) = _
  rw [Bool.eq_iff_iff]; simp

set_option maxHeartbeats 4000000 in
set_option maxRecDepth 100000 in
theorem orders_c {OrdAt : World → Nat → Od → Prop} (S : Says OrdAt) (v va vb vc : Value) (l : Opts) (a b c : List UInt8) (w : World) (hl : l.length ≤ 2097152) (hq : ∀ q ∈ l, q.2.size ≤ 2097152) (la : a.length ≤ 2097152) (lb : b.length ≤ 2097152) (lc : c.length ≤ 2097152) (hO : OpAt w v l) (hA : ByAt w va a) (hB : ByAt w vb b) (hC : ByAt w vc c) :
    Calls Tryd.prog 4 #[v, va, vb, vc] w fun e w' => e = .returned (.bool true) ∧ Below w.heap.size w w' := by
  have HS := Lib.hid S
  have haw := awake_c S w
  have HI := Lib.hid (And.intro hO (And.intro hA (And.intro hB hC)))
  clear S hO hA hB hC
  go_enter Tryd.func4, Tryd.ntmps4
  go_wp2_with fail
  refine haw.mono ?_
  rintro e w1 ⟨rfl, hb1⟩
  have hr := HS.out.read v l w1 hl hq (HI.out.1.below hb1)
  have HB1 := Lib.hid hb1
  clear haw hb1 hq
  cases hrd : readS l with
  | none =>
    rw [hrd] at hr
    clear hrd
    go_wp2_with (go_at_call 8; refine hr.mono ?_; rintro e w2 ⟨rfl, hb2⟩)
    go_ret
    exact ⟨rfl, HB1.out.trans (hb2.mono HB1.out.size)⟩
  | some o =>
    rw [hrd] at hr
    clear hrd
    go_wp2_with fail
    refine hr.mono ?_
    rintro e w2 ⟨⟨p, rfl, hP⟩, hb2⟩
    have T2 : Hid (Tri OrdAt w w2 p o va vb vc a b c) := ⟨hP, (HI.out.2.1.below HB1.out).below hb2, (HI.out.2.2.1.below HB1.out).below hb2, (HI.out.2.2.2.below HB1.out).below hb2, HB1.out.trans (hb2.mono HB1.out.size)⟩
    clear hr hP hb2 HB1 HI
    go_wp2_with fail
    refine (tri_cmp HS.out T2.out T2.out.a T2.out.b la lb).mono ?_
    rintro e w3 ⟨n1, rfl, hn1, T⟩
    have T3 := Lib.hid T
    have hs1 := sign_c n1 w3
    rw [hn1] at hs1
    clear T hn1 T2
    go_wp2_with (go_at_call 10; refine hs1.mono ?_; rintro e w' ⟨rfl, hw'⟩; rw [hw']; clear hw' hs1)
    refine (tri_cmp HS.out T3.out T3.out.b T3.out.a lb la).mono ?_
    rintro e w4 ⟨n2, rfl, hn2, T⟩
    have T4 := Lib.hid T
    have hs2 := sign_c n2 w4
    rw [hn2] at hs2
    clear T hn2 T3
    go_wp2_with (go_at_call 10; refine hs2.mono ?_; rintro e w' ⟨rfl, hw'⟩; rw [hw']; clear hw' hs2)
    refine (tri_cmp HS.out T4.out T4.out.b T4.out.c lb lc).mono ?_
    rintro e w5 ⟨n3, rfl, hn3, T⟩
    have T5 := Lib.hid T
    have hs3 := sign_c n3 w5
    rw [hn3] at hs3
    clear T hn3 T4
    go_wp2_with (go_at_call 10; refine hs3.mono ?_; rintro e w' ⟨rfl, hw'⟩; rw [hw']; clear hw' hs3)
    refine (tri_cmp HS.out T5.out T5.out.a T5.out.c la lc).mono ?_
    rintro e w6 ⟨n4, rfl, hn4, T⟩
    have T6 := Lib.hid T
    have hs4 := sign_c n4 w6
    rw [hn4] at hs4
    clear T hn4 T5
    go_wp2_with (go_at_call 10; refine hs4.mono ?_; rintro e w' ⟨rfl, hw'⟩; rw [hw']; clear hw' hs4)
    refine (tri_keys HS.out T6.out T6.out.a T6.out.b la lb).mono ?_
    rintro e w7 ⟨n5, rfl, hn5, T⟩
    have T7 := Lib.hid T
    have hs5 := sign_c n5 w7
    rw [hn5] at hs5
    clear T hn5 T6
    go_wp2_with (go_at_call 10; refine hs5.mono ?_; rintro e w' ⟨rfl, hw'⟩; rw [hw']; clear hw' hs5)
    refine (tri_keys HS.out T7.out T7.out.b T7.out.c lb lc).mono ?_
    rintro e w8 ⟨n6, rfl, hn6, T⟩
    have T8 := Lib.hid T
    have hs6 := sign_c n6 w8
    rw [hn6] at hs6
    clear T hn6 T7
    go_wp2_with (go_at_call 10; refine hs6.mono ?_; rintro e w' ⟨rfl, hw'⟩; rw [hw']; clear hw' hs6)
    refine (tri_keys HS.out T8.out T8.out.a T8.out.c la lc).mono ?_
    rintro e w9 ⟨n7, rfl, hn7, T⟩
    have T9 := Lib.hid T
    have hs7 := sign_c n7 w9
    rw [hn7] at hs7
    clear T hn7 T8
    obtain ⟨m1, m2, m3, m4, m5, m6⟩ := o.orders a b c
    have r1 := o.cmC.rng b a
    have r2 := o.cmK.rng a b
    have r3 := o.cmK.rng b c
    have r4 := o.cmK.rng a c
    have hca := str_of T9.out.a
    have hcb := str_of T9.out.b
    have HM := Lib.hid (And.intro m2 (And.intro m1 (And.intro m3 (And.intro m4 (And.intro m5 (And.intro m6 (And.intro r1 (And.intro r2 (And.intro r3 r4)))))))))
    clear m1 m3 m4 m5 m6 m2 r1 r2 r3 r4
    generalize o.cmp a b = AB at *
    generalize o.cmp b a = BA at *
    generalize o.cmp b c = BC at *
    generalize o.cmp a c = AC at *
    generalize o.keysC a b = KAB at *
    generalize o.keysC b c = KBC at *
    generalize o.keysC a c = KAC at *
    go_upto_region 12 with (go_at_call 10; refine hs7.mono ?_; rintro e w' ⟨rfl, hw'⟩; rw [hw']; clear hw' hs7)
    go_cut [97] (fun v wx => v = .bool false ∧ wx = w9)
    case first =>
      obtain ⟨m2, m1, m3, z1, z2, z3, r1, z4⟩ := HM.out
      clear HM z1 z2 z3 z4
      rcases r1 with rfl | rfl | rfl
      · obtain rfl : AB = 1 := by omega
        have hab : ¬ a = b := fun e => by have := m2.2 e; omega
        clear m1 m2
        by_cases hk : KAB = 0
        · subst hk
          clear m3
          go_wp2_with fail
          go_meet
          case rel => exact ⟨by simp [hab], rfl⟩
        · have e := m3 hk
          subst e
          clear m3 hk
          go_wp2_with fail
          go_meet
          case rel => exact ⟨by simp [hab], rfl⟩
      · obtain rfl : AB = 0 := by omega
        have hab : a = b := m2.1 rfl
        subst hab
        clear m1 m2
        have hk : KAB = 0 := Classical.byContradiction fun h => h (m3 h)
        subst hk
        clear m3
        go_wp2_with fail
        go_meet
        case rel => exact ⟨by simp, rfl⟩
      · obtain rfl : AB = -1 := by omega
        have hab : ¬ a = b := fun e => by have := m2.2 e; omega
        clear m1 m2
        by_cases hk : KAB = 0
        · subst hk
          clear m3
          go_wp2_with fail
          go_meet
          case rel => exact ⟨by simp [hab], rfl⟩
        · have e := m3 hk
          subst e
          clear m3 hk
          go_wp2_with fail
          go_meet
          case rel => exact ⟨by simp [hab], rfl⟩
    case rest =>
      obtain ⟨rfl, rfl⟩ := hcut
      go_upto_region 14 with fail
      go_cut [131] (fun v wx => v = .bool false ∧ wx = wc)
      case first =>
        obtain ⟨z0, z1, z2, m4, m5, m6, z3, r2, r3, r4⟩ := HM.out
        clear HM z0 z1 z2 z3
        have h3 : (AB ≤ 0 ∧ BC ≤ 0 ∧ ¬ 0 < AC) ∨ (AB ≤ 0 ∧ ¬ BC ≤ 0) ∨ ¬ AB ≤ 0 := by omega
        have h6 : 0 < KAB ∨ (KAB = 0 ∧ 0 < KBC) ∨ (KAB < 0 ∧ 0 < KBC) ∨ (KAB < 0 ∧ KBC ≤ 0 ∧ ¬ 0 < KAC) ∨ (KAB = 0 ∧ KBC < 0 ∧ ¬ 0 < KAC) ∨ (KAB = 0 ∧ KBC = 0 ∧ KAC = 0) := by omega
        clear m4 m5 m6 r2 r3 r4
        rcases h6 with k1 | ⟨rfl, k2⟩ | ⟨k1, k2⟩ | ⟨k1, k2, k3⟩ | ⟨rfl, k2, k3⟩ | ⟨rfl, rfl, rfl⟩
        · have q1 : (KAB == 0) = false := by simp; omega
          rcases h3 with ⟨x1, x2, x3⟩ | ⟨x1, x2⟩ | x1 <;> (go_wp2_with fail; go_meet; (case rel => exact ⟨by simp [*], rfl⟩))
        · have q1 : (KBC == 0) = false := by simp; omega
          rcases h3 with ⟨x1, x2, x3⟩ | ⟨x1, x2⟩ | x1 <;> (go_wp2_with fail; go_meet; (case rel => exact ⟨by simp [*], rfl⟩))
        · have q1 : (KAB == 0) = false := by simp; omega
          rcases h3 with ⟨x1, x2, x3⟩ | ⟨x1, x2⟩ | x1 <;> (go_wp2_with fail; go_meet; (case rel => exact ⟨by simp [*], rfl⟩))
        · have q1 : (KAB == 0) = false := by simp; omega
          rcases h3 with ⟨x1, x2, x3⟩ | ⟨x1, x2⟩ | x1 <;> (go_wp2_with fail; go_meet; (case rel => exact ⟨by simp [*], rfl⟩))
        · have q1 : (KBC == 0) = false := by simp; omega
          rcases h3 with ⟨x1, x2, x3⟩ | ⟨x1, x2⟩ | x1 <;> (go_wp2_with fail; go_meet; (case rel => exact ⟨by simp [*], rfl⟩))
        · rcases h3 with ⟨x1, x2, x3⟩ | ⟨x1, x2⟩ | x1 <;> (go_wp2_with fail; go_meet; (case rel => exact ⟨by simp [*], rfl⟩))
      case rest =>
        obtain ⟨rfl, rfl⟩ := hcut
        go_wp2_with fail
        go_ret
        exact ⟨rfl, T9.out.bl⟩
end Go.Proofs.YtdgnbcbcfgfkmaaDoor
