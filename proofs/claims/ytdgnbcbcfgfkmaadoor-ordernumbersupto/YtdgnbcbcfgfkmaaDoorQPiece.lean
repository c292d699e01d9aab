/- A key's bytes, by the reference. -/
import Derived.Test.YtdgnbcbcfgfkmaaDoorQFldB
namespace Go.Proofs.YtdgnbcbcfgfkmaaDoor
open Go.RowKit

theorem own_below {w w' : World} {base e s n : Nat} {v : Value} {xs : List Value} (h : w.ownsRow base e s v n xs) (hb : Below w.heap.size w w') : w'.ownsRow base e s v n xs := by
  refine ⟨h.1, ?_⟩
  rcases h.2 with h | ⟨g, cap, cur, h1, h2, h3, h4⟩
  · exact .inl h
  · exact .inr ⟨g, cap, cur, h1, h2, (hb.block g (Array.getElem?_eq_some_iff.1 h3).1).trans h3, h4⟩
theorem own_zero {w : World} {base e s n : Nat} {v : Value} {xs : List Value} (h : w.ownsRow base e s v n xs) : w.ownsRow 0 e s v n xs := by
  refine ⟨h.1, ?_⟩
  rcases h.2 with h | ⟨g, cap, cur, h1, h2, h3⟩
  · exact .inl h
  · exact .inr ⟨g, cap, cur, h1, Nat.zero_le _, h3⟩
def Ky.cells (k : Ky) : Array Value := #[.int .i64 k.f1, .int .i64 k.c1, .int .i64 k.f2, .int .i64 k.c2, .bool k.fl.b, .bool k.fl.e, .bool k.fl.d, .bool k.fl.f, .bool k.fl.i, .bool k.fl.n, .bool k.fl.r]
def Ky.Ok (k : Ky) : Prop := 1 ≤ k.f1 ∧ k.f1 ≤ 2147483647 ∧ 0 ≤ k.c1 ∧ k.c1 ≤ 2147483647 ∧ 0 ≤ k.f2 ∧ k.f2 ≤ 2147483647 ∧ 0 ≤ k.c2 ∧ k.c2 ≤ 2147483647
/-- The worlds in which a key's bytes are sought. -/
structure Pc (w : World) (sz : Nat) (d : List UInt8) (v : Value) (k : Ky) (fv : Value) (L : List (Nat × Nat)) (wx : World) : Prop where
  size : sz = w.heap.size
  by_ : ByAt wx v d
  box : wx.heap[sz]? = some (.cells k.cells 68)
  fl : wx.ownsRow 0 90 2 fv L.length (flCells L)
  bl : Below w.heap.size w wx
theorem Pc.on {w : World} {sz : Nat} {d : List UInt8} {v : Value} {k : Ky} {fv : Value} {L : List (Nat × Nat)} {wx wy : World} (h : Pc w sz d v k fv L wx) (hb : Below wx.heap.size wx wy) : Pc w sz d v k fv L wy :=
  ⟨h.size, h.by_.below hb, (hb.block sz (Array.getElem?_eq_some_iff.1 h.box).1).trans h.box, own_below h.fl hb, h.bl.trans (hb.mono h.bl.size)⟩
section
variable {w : World} {sz : Nat} {d : List UInt8} {v : Value} {k : Ky} {fv : Value} {L : List (Nat × Nat)} {wx : World}
theorem Pc.at_ (h : Pc w sz d v k fv L wx) (i : Nat) {y : Value} (hi : k.cells[i]? = some y) : wx.cell? ⟨sz, i, none⟩ = some y := by simp [World.cell?, h.box, hi]
end
theorem fl_cell {wx : World} {base : Nat} {x : Option Addr} {n cap : Nat} {L : List (Nat × Nat)} (h : wx.ownsRow base 90 2 (.slice x n cap) n (flCells L)) (hn : n = L.length) (j : Nat) (hj : j < L.length) : ∃ g, x = some ⟨g, 0, none⟩ ∧ g < wx.heap.size ∧ wx.cell? ⟨g, j * 2, none⟩ = some (.int .i64 ((L[j]).1 : Int)) ∧ wx.cell? ⟨g, j * 2 + 1, none⟩ = some (.int .i64 ((L[j]).2 : Int)) := by
  obtain ⟨g, rfl⟩ := own_some2 h (by omega)
  have h1 := own_cell2 h (j * 2) (by omega)
  have h2 := own_cell2 h (j * 2 + 1) (by omega)
  have h3 := flCells_at L j hj
  rw [h3.1] at h1
  rw [h3.2] at h2
  exact ⟨g, rfl, World.block_lt_of_cell? _ _ h1, h1, h2⟩

set_option maxHeartbeats 4000000 in
set_option maxRecDepth 100000 in
theorem piece_c (p : Nat) (sep : Option UInt8) (v : Value) (d : List UInt8) (k : Ky) (w : World) (hd : d.length ≤ 2097152) (hk : k.Ok) (hp : w.cell? ⟨p, 7, none⟩ = some (.int .i64 (sepI sep))) (hB : ByAt w v d) :
    Calls Tryd.prog 26 #[.pointer (some ⟨p, 0, none⟩), v, .agg k.cells] w fun e w' => ∃ pv, e = .returned pv ∧ ByAt w' pv (pieceS sep d k) ∧ Below w.heap.size w w' := by
  obtain ⟨x, cp, rfl⟩ := hB.shape
  have hpl := World.block_lt_of_cell? w _ hp
  have hFd := fields_c2 p sep (.slice x d.length cp) d (w.alloc (.cells k.cells 68)) hd (((Below.refl w.heap.size w).alloc (Nat.le_refl _) _).cell (p := ⟨p, 7, none⟩) hpl |>.trans hp) (hB.below ((Below.refl w.heap.size w).alloc (Nat.le_refl _) _))
  have HB := Lib.hid hB
  clear hB
  unfold Ky.cells at hFd ⊢
  go_enter Tryd.func26, Tryd.ntmps26
  go_wp2_with fail
  refine hFd.mono ?_
  rintro e w1 ⟨fv, rfl, hF1, hb1⟩
  obtain ⟨xf, cf, rfl⟩ := own_slice2 hF1
  have HP1 : Hid (Pc w w.heap.size d (.slice x d.length cp) k (.slice xf (fieldsS sep d).length cf) (fieldsS sep d) w1) := by
    refine ⟨rfl, (HB.out.below ((Below.refl w.heap.size w).alloc (Nat.le_refl _) _)).below hb1, ?_, own_zero hF1, below_new hb1⟩
    rw [hb1.block w.heap.size (by simp)]
    show (w.heap.push _)[w.heap.size]? = _
    simp [Ky.cells]
  clear hFd hF1 hb1 HB hp hpl
  have hLen := fieldsS_len sep d
  have hOk := fieldsS_ok sep d
  have HR : Hid (pieceS sep d k = (d.take (toS d k (fieldsS sep d))).drop (fromS d k (fieldsS sep d))) := (show _ = _ from rfl)
  generalize fieldsS sep d = L at HP1 hLen hOk HR ⊢
  generalize hsz : w.heap.size = sz at HP1 ⊢
  obtain ⟨k1, k2, k3, k4, k5, k6, k7, k8⟩ := hk
  generalize hn : d.length = n at hd HP1 hLen ⊢
  have HN := Lib.hid hn
  have HK := Lib.hid hOk
  clear hn hOk
  have c0 : w1.cell? ⟨sz, 0, none⟩ = some (.int .i64 k.f1) := HP1.out.at_ 0 rfl
  have c1 : w1.cell? ⟨sz, 1, none⟩ = some (.int .i64 k.c1) := HP1.out.at_ 1 rfl
  have c2 : w1.cell? ⟨sz, 2, none⟩ = some (.int .i64 k.f2) := HP1.out.at_ 2 rfl
  have c3 : w1.cell? ⟨sz, 3, none⟩ = some (.int .i64 k.c2) := HP1.out.at_ 3 rfl
  have c4 : w1.cell? ⟨sz, 4, none⟩ = some (.bool k.fl.b) := HP1.out.at_ 4 rfl
  have c5 : w1.cell? ⟨sz, 5, none⟩ = some (.bool k.fl.e) := HP1.out.at_ 5 rfl
  generalize Value.agg #[.int .i64 k.f1, .int .i64 k.c1, .int .i64 k.f2, .int .i64 k.c2, .bool k.fl.b, .bool k.fl.e, .bool k.fl.d, .bool k.fl.f, .bool k.fl.i, .bool k.fl.n, .bool k.fl.r] = AG
  go_upto_if 22 with fail
  go_cut [8] (fun v wx => v = .int .i64 (fromS d k L : Int) ∧ Hid (Pc w sz d (.slice x n cp) k (.slice xf L.length cf) L wx))
  case first =>
    by_cases hf1 : k.f1 ≤ (L.length : Int)
    · have hj : (k.f1 - 1).toNat < L.length := by omega
      obtain ⟨g, rfl, hg, d0, d1⟩ := fl_cell HP1.out.fl rfl _ hj
      have HF : Hid (L[(k.f1 - 1).toNat]? = some L[(k.f1 - 1).toNat]) := by show _ = _; exact List.getElem?_eq_getElem hj
      have hfk := HK.out _ (List.getElem_mem hj)
      generalize L[(k.f1 - 1).toNat] = f at d0 d1 HF hfk
      have hj2 : k.f1 - 1 = (((k.f1 - 1).toNat : Nat) : Int) := by omega
      generalize hjj : (k.f1 - 1).toNat = j at d0 d1 hj hj2 HF
      have HPa : Hid (Pc w sz d (.slice x n cp) k (.slice (some ⟨g, 0, none⟩) L.length cf) L (w1.alloc (.cells #[.int .i64 ((f.1 : Nat) : Int), .int .i64 ((f.2 : Nat) : Int)] 90))) := HP1.out.on ((Below.refl w1.heap.size w1).alloc (Nat.le_refl _) _)
      have HFr : Hid (fromS d k L = (if k.fl.b then innerS d f else f.1) + (k.c1 - 1).toNat) := by show _ = _; unfold fromS; rw [hjj, HF.out]
      clear HF HK
      obtain ⟨f0, f1⟩ := f
      simp only at d0 d1 hfk HPa HFr
      obtain ⟨hf01, hfd⟩ := hfk
      have hf0b : f0 ≤ 2097152 := by have := HN.out; omega
      have a0 : (w1.alloc (.cells #[.int .i64 ((f0 : Nat) : Int), .int .i64 ((f1 : Nat) : Int)] 90)).cell? ⟨sz, 0, none⟩ = some (.int .i64 k.f1) := HPa.out.at_ 0 rfl
      have a1 : (w1.alloc (.cells #[.int .i64 ((f0 : Nat) : Int), .int .i64 ((f1 : Nat) : Int)] 90)).cell? ⟨sz, 1, none⟩ = some (.int .i64 k.c1) := HPa.out.at_ 1 rfl
      have a2 : (w1.alloc (.cells #[.int .i64 ((f0 : Nat) : Int), .int .i64 ((f1 : Nat) : Int)] 90)).cell? ⟨sz, 2, none⟩ = some (.int .i64 k.f2) := HPa.out.at_ 2 rfl
      have a3 : (w1.alloc (.cells #[.int .i64 ((f0 : Nat) : Int), .int .i64 ((f1 : Nat) : Int)] 90)).cell? ⟨sz, 3, none⟩ = some (.int .i64 k.c2) := HPa.out.at_ 3 rfl
      have a4 : (w1.alloc (.cells #[.int .i64 ((f0 : Nat) : Int), .int .i64 ((f1 : Nat) : Int)] 90)).cell? ⟨sz, 4, none⟩ = some (.bool k.fl.b) := HPa.out.at_ 4 rfl
      have a5 : (w1.alloc (.cells #[.int .i64 ((f0 : Nat) : Int), .int .i64 ((f1 : Nat) : Int)] 90)).cell? ⟨sz, 5, none⟩ = some (.bool k.fl.e) := HPa.out.at_ 5 rfl
      cases hbb : k.fl.b with
      | false =>
        rw [hbb, if_neg (by simp)] at HFr
        by_cases hc1 : 0 < k.c1
        · have hfr : (fromS d k L : Int) = (f0 : Int) + k.c1 - 1 := by have := HFr.out; omega
          go_wp2_with fail
          go_meet
          case rel => exact ⟨by rw [hfr]; first | done | rfl | (congr 1; unfold wrap64; omega) | (congr 1; exact IntWalk.i64_in _ (by omega)), HPa⟩
        · have hfr : fromS d k L = f0 := by have := HFr.out; omega
          go_wp2_with fail
          go_meet
          case rel => exact ⟨by rw [hfr]; first | done | rfl | (congr 1; unfold wrap64; omega) | (congr 1; exact IntWalk.i64_in _ (by omega)), HPa⟩
      | true =>
        rw [hbb, if_pos rfl] at HFr
        have hin := inner_c (.slice x n cp) d f0 f1 _ (by rw [HN.out]; exact hd) hf01 hfd HPa.out.by_
        have hil : innerS d (f0, f1) ≤ 2097152 := by
          have h1 := takeWhile_le isBl ((d.take f1).drop f0)
          have hn := HN.out
          unfold innerS skipB
          simp only [List.length_drop, List.length_take] at h1 ⊢
          omega
        generalize innerS d (f0, f1) = IN at hin hil HFr
        by_cases hc1 : 0 < k.c1
        · have hfr : (fromS d k L : Int) = (IN : Int) + k.c1 - 1 := by have := HFr.out; omega
          go_wp2_with (go_at_call 43; refine hin.mono ?_; rintro e w2 ⟨rfl, hb2⟩; have HPb := Lib.hid (HPa.out.on hb2); have b1 : w2.cell? ⟨sz, 1, none⟩ = some (.int .i64 k.c1) := HPb.out.at_ 1 rfl; clear hb2)
          go_meet
          case rel => exact ⟨by rw [hfr]; first | done | rfl | (congr 1; unfold wrap64; omega) | (congr 1; exact IntWalk.i64_in _ (by omega)), HPb⟩
        · have hfr : fromS d k L = IN := by have := HFr.out; omega
          go_wp2_with (go_at_call 43; refine hin.mono ?_; rintro e w2 ⟨rfl, hb2⟩; have HPb := Lib.hid (HPa.out.on hb2); have b1 : w2.cell? ⟨sz, 1, none⟩ = some (.int .i64 k.c1) := HPb.out.at_ 1 rfl; clear hb2)
          go_meet
          case rel => exact ⟨by rw [hfr]; first | done | rfl | (congr 1; unfold wrap64; omega) | (congr 1; exact IntWalk.i64_in _ (by omega)), HPb⟩
    · have hfr : fromS d k L = n := by
        unfold fromS
        rw [List.getElem?_eq_none (by omega)]
        exact HN.out
      go_wp2_with fail
      go_meet
      case rel => exact ⟨by rw [hfr], HP1⟩
  case rest =>
    obtain ⟨rfl, HP2⟩ := hcut
    clear HP1
    have s2 : (wc).cell? ⟨sz, 2, none⟩ = some (.int .i64 k.f2) := HP2.out.at_ 2 rfl
    have s3 : (wc).cell? ⟨sz, 3, none⟩ = some (.int .i64 k.c2) := HP2.out.at_ 3 rfl
    have s5 : (wc).cell? ⟨sz, 5, none⟩ = some (.bool k.fl.e) := HP2.out.at_ 5 rfl
    have hfb : fromS d k L ≤ 2149580800 := by
      unfold fromS
      have hn := HN.out
      split
      · omega
      · rename_i f hf
        have h1 := HK.out f (List.mem_of_getElem? hf)
        have h2 : innerS d f ≤ d.length := by
          have h3 := takeWhile_le isBl ((d.take f.2).drop f.1)
          unfold innerS skipB
          simp only [List.length_drop, List.length_take] at h3 ⊢
          omega
        have h4 : (if k.fl.b then innerS d f else f.1) ≤ d.length := by split <;> omega
        omega
    generalize fromS d k L = FR at HR hfb ⊢
    have hcs : (k.f2 < 1) ∨ (1 ≤ k.f2 ∧ (L.length : Int) < k.f2) ∨ (1 ≤ k.f2 ∧ k.f2 ≤ (L.length : Int)) := by omega
    go_upto_region 11 with fail
    go_cut [61] (fun v wx => v = .bool (decide (1 ≤ k.f2 ∧ k.f2 ≤ (L.length : Int))) ∧ wx = wc)
    case first =>
      rcases hcs with h | ⟨h, h'⟩ | ⟨h, h'⟩
      all_goals
        go_wp2_with fail
        go_meet
        case rel => exact ⟨congrArg Value.bool (by rw [Bool.eq_iff_iff]; simp; omega), rfl⟩
    case rest =>
      obtain ⟨rfl, rfl⟩ := hcut
      go_upto_if 61 with fail
      go_cut [10] (fun v wx => v = .int .i64 (toS d k L : Int) ∧ Hid (Pc w sz d (.slice x n cp) k (.slice xf L.length cf) L wx))
      case first =>
        by_cases hin : 1 ≤ k.f2 ∧ k.f2 ≤ (L.length : Int)
        · have hdt : decide (1 ≤ k.f2 ∧ k.f2 ≤ (L.length : Int)) = true := decide_eq_true hin
          obtain ⟨hi1, hi2⟩ := hin
          have hj : (k.f2 - 1).toNat < L.length := by omega
          obtain ⟨g, rfl, hg, d0, d1⟩ := fl_cell HP2.out.fl rfl _ hj
          have HF : Hid (L[(k.f2 - 1).toNat]? = some L[(k.f2 - 1).toNat]) := by show _ = _; exact List.getElem?_eq_getElem hj
          have hfk := HK.out _ (List.getElem_mem hj)
          generalize L[(k.f2 - 1).toNat] = f at d0 d1 HF hfk
          have hj2 : k.f2 - 1 = (((k.f2 - 1).toNat : Nat) : Int) := by omega
          generalize hjj : (k.f2 - 1).toNat = j at d0 d1 hj hj2 HF
          obtain ⟨f0, f1⟩ := f
          simp only at d0 d1 hfk
          obtain ⟨hf01, hfd⟩ := hfk
          have hf0b : f0 ≤ 2097152 := by have := HN.out; omega
          have HPa : Hid (Pc w sz d (.slice x n cp) k (.slice (some ⟨g, 0, none⟩) L.length cf) L (wc.alloc (.cells #[.int .i64 ((f0 : Nat) : Int), .int .i64 ((f1 : Nat) : Int)] 90))) := HP2.out.on ((Below.refl wc.heap.size wc).alloc (Nat.le_refl _) _)
          have HTo : Hid (toS d k L = if k.c2 < 1 then f1 else (if k.fl.e then innerS d (f0, f1) else f0) + k.c2.toNat) := by show _ = _; unfold toS; rw [if_neg (by omega), hjj, HF.out]
          have a2 : (wc.alloc (.cells #[.int .i64 ((f0 : Nat) : Int), .int .i64 ((f1 : Nat) : Int)] 90)).cell? ⟨sz, 2, none⟩ = some (.int .i64 k.f2) := HPa.out.at_ 2 rfl
          have a3 : (wc.alloc (.cells #[.int .i64 ((f0 : Nat) : Int), .int .i64 ((f1 : Nat) : Int)] 90)).cell? ⟨sz, 3, none⟩ = some (.int .i64 k.c2) := HPa.out.at_ 3 rfl
          have a5 : (wc.alloc (.cells #[.int .i64 ((f0 : Nat) : Int), .int .i64 ((f1 : Nat) : Int)] 90)).cell? ⟨sz, 5, none⟩ = some (.bool k.fl.e) := HPa.out.at_ 5 rfl
          clear HF
          by_cases hc2 : 0 < k.c2
          · rw [if_neg (by omega)] at HTo
            cases hee : k.fl.e with
            | false =>
              rw [hee, if_neg (by simp)] at HTo
              have hto : (toS d k L : Int) = (f0 : Int) + k.c2 := by have := HTo.out; omega
              go_wp2_with fail
              go_meet
              case rel => exact ⟨(by rw [hto]; first | done | rfl | (congr 1; unfold wrap64; omega) | (congr 1; exact IntWalk.i64_in _ (by omega))), HPa⟩
            | true =>
              rw [hee, if_pos rfl] at HTo
              have HPd : Hid (Pc w sz d (.slice x n cp) k (.slice (some ⟨g, 0, none⟩) L.length cf) L (wc.alloc (.cells #[.int .i64 ((f0 : Nat) : Int), .int .i64 ((f1 : Nat) : Int)] 90)).drew) := HPa.out.on ⟨rfl, rfl, rfl, Nat.le_refl _, fun _ _ => rfl⟩
              have hin := inner_c (.slice x n cp) d f0 f1 (wc.alloc (.cells #[.int .i64 ((f0 : Nat) : Int), .int .i64 ((f1 : Nat) : Int)] 90)).drew (by rw [HN.out]; exact hd) hf01 hfd HPd.out.by_
              have hil : innerS d (f0, f1) ≤ 2097152 := by
                have h1 := takeWhile_le isBl ((d.take f1).drop f0)
                have hn := HN.out
                unfold innerS skipB
                simp only [List.length_drop, List.length_take] at h1 ⊢
                omega
              generalize innerS d (f0, f1) = IN at hin hil HTo
              have hto : (toS d k L : Int) = (IN : Int) + k.c2 := by have := HTo.out; omega
              go_wp2_with fail
              go_region_with (go_at_call 43; refine hin.mono ?_; rintro e w2 ⟨rfl, hb2⟩; have HPb := Lib.hid (HPd.out.on hb2); have b3 : w2.cell? ⟨sz, 3, none⟩ = some (.int .i64 k.c2) := HPb.out.at_ 3 rfl; clear hb2)
              all_goals
                go_wp2_with fail
                go_meet
                case rel => exact ⟨(by rw [hto]; first | done | rfl | (congr 1; unfold wrap64; omega) | (congr 1; exact IntWalk.i64_in _ (by omega))), HPb⟩
          · rw [if_pos (by omega)] at HTo
            have hto := HTo.out
            cases hee : k.fl.e
            all_goals
              go_wp2_with fail
              go_meet
              case rel => exact ⟨(by rw [hto]; first | done | rfl | (congr 1; unfold wrap64; omega) | (congr 1; exact IntWalk.i64_in _ (by omega))), HPa⟩
        · have hdt : decide (1 ≤ k.f2 ∧ k.f2 ≤ (L.length : Int)) = false := decide_eq_false hin
          have hto : toS d k L = n := by
            unfold toS
            by_cases h1 : k.f2 < 1
            · rw [if_pos h1]; exact HN.out
            · rw [if_neg h1, List.getElem?_eq_none (by omega)]; exact HN.out
          go_wp2_with fail
          go_meet
          case rel => exact ⟨(by rw [hto]; first | done | rfl | (congr 1; unfold wrap64; omega) | (congr 1; exact IntWalk.i64_in _ (by omega))), HP2⟩
      case rest =>
        obtain ⟨rfl, HP3⟩ := hcut
        clear HP2 s2 s3 s5 hcs
        generalize toS d k L = TO at HR ⊢
        by_cases hgt : n < TO
        · have HR' : Hid (pieceS sep d k = (d.take n).drop FR) := by
            show _ = _
            have hn := HN.out
            rw [HR.out, List.take_of_length_le (by omega), List.take_of_length_le (by omega)]
          clear HR
          by_cases hft : n ≤ FR
          · have HRn : Hid (pieceS sep d k = []) := by show _ = []; rw [HR'.out]; exact List.drop_eq_nil_of_le (by rw [List.length_take]; omega)
            go_wp2_with fail
            go_ret
            exact ⟨_, rfl, .inl ⟨rfl, HRn.out⟩, HP3.out.bl⟩
          · obtain ⟨bb, off, rfl, _, hcap, hbb, hc⟩ := HP3.out.by_.some (by rw [HN.out]; omega)
            have hcp := hcap.1
            rw [HN.out] at hcp
            have HBy : Hid (ByAt wc (.slice (some ⟨bb, off + FR, none⟩) (n - FR) (cp - FR)) (pieceS sep d k)) := by
              show ByAt _ _ _
              rw [HR'.out]
              exact by_cut (by omega) (by rw [HN.out]; omega) hcap.1 hcap.2 hbb hc
            have hcp2 := hcap.2
            clear hc hcap
            go_wp2_with fail
            go_ret
            exact ⟨_, rfl, by first | exact HBy.out | (have h := HBy.out; rw [← HN.out] at h; exact h), HP3.out.bl⟩
        · have HR' := HR
          have hle : TO ≤ n := by omega
          clear HR
          by_cases hft : TO ≤ FR
          · have HRn : Hid (pieceS sep d k = []) := by show _ = []; rw [HR'.out]; exact List.drop_eq_nil_of_le (by rw [List.length_take]; omega)
            go_wp2_with fail
            go_ret
            exact ⟨_, rfl, .inl ⟨rfl, HRn.out⟩, HP3.out.bl⟩
          · obtain ⟨bb, off, rfl, _, hcap, hbb, hc⟩ := HP3.out.by_.some (by rw [HN.out]; omega)
            have hcp := hcap.1
            rw [HN.out] at hcp
            have HBy : Hid (ByAt wc (.slice (some ⟨bb, off + FR, none⟩) (TO - FR) (cp - FR)) (pieceS sep d k)) := by
              show ByAt _ _ _
              rw [HR'.out]
              exact by_cut (by omega) (by rw [HN.out]; omega) hcap.1 hcap.2 hbb hc
            have hcp2 := hcap.2
            clear hc hcap
            go_wp2_with fail
            go_ret
            exact ⟨_, rfl, by first | exact HBy.out | (have h := HBy.out; rw [← HN.out] at h; exact h), HP3.out.bl⟩
end Go.Proofs.YtdgnbcbcfgfkmaaDoor
