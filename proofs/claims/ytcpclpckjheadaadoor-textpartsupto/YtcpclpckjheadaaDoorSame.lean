/- The contract of the law's comparison of two lists of pieces, which writes the first one full. -/
import Derived.Test.YtcpclpckjheadaaDoorRefLines
import Derived.RegionTactic
import Derived.BigRegion
import Derived.Deep.QuietTactic
import Derived.BigQuiet
namespace Go.Proofs.YtcpclpckjheadaaDoor
open Go.RowKit

/-- Slices that own bytes, as many as these, whichever they are. -/
def Loose (base : Nat) (W : World) (vs : List Value) (ls : List (List UInt8)) : Prop :=
  vs.length = ls.length ∧ ∀ i (hi : i < ls.length), ∃ v l', vs[i]? = some v ∧ l'.length = ls[i].length ∧ W.ownsRow base 5 1 v l'.length (u8s l')
theorem RowsAt.loose {base : Nat} {W : World} {vs : List Value} {ls : List (List UInt8)} (h : RowsAt base W vs ls) : Loose base W vs ls :=
  ⟨h.1, fun i hi => by obtain ⟨v, h1, h2⟩ := h.2 i hi; exact ⟨v, ls[i], h1, rfl, h2⟩⟩

theorem grown_set (W : World) (b o : Nat) (v : Value) : W.grownBy (W.setCell ⟨b, o, none⟩ v) (some b) :=
  ⟨rfl, rfl, rfl, (KeepsWalks.setCell W _ v).size, fun k _ hk => Below.heap_setCell _ _ _ k (fun e => hk (by rw [e]))⟩

theorem own_set {W : World} {base n : Nat} {v : Value} {l : List UInt8} (h : W.ownsRow base 5 1 v n (u8s l)) (hn : l.length = n) (g j : Nat) (x : UInt8) : ∃ l', l'.length = l.length ∧ (W.setCell ⟨g, j, none⟩ (.int .u8 (x.toNat : Int))).ownsRow base 5 1 v n (u8s l') := by
  rcases h.2 with ⟨rfl, h0⟩ | ⟨g', cap, cur, rfl, hb, hg, hle, hcap, hsz, htk⟩
  · exact ⟨l, rfl, h.1, .inl ⟨rfl, h0⟩⟩
  · by_cases e : g' = g
    · subst e
      refine ⟨l.set j x, by simp, by simp [u8s, hn], .inr ⟨g', cap, cur.setIfInBounds j (.int .u8 (x.toNat : Int)), rfl, hb, Joins.block_setCell hg _, hle, hcap, by simpa using hsz, ?_⟩⟩
      rw [Array.toList_setIfInBounds, List.take_set, htk, u8s, u8s, List.map_set]
    · exact ⟨l, rfl, h.kept (grown_set W g j _) (.inr (by simp [Value.ownBlock, e]))⟩

theorem Loose.set {base : Nat} {W : World} {vs : List Value} {ls : List (List UInt8)} (h : Loose base W vs ls) (g j : Nat) (x : UInt8) : Loose base (W.setCell ⟨g, j, none⟩ (.int .u8 (x.toNat : Int))) vs ls :=
  ⟨h.1, fun i hi => by
    obtain ⟨v, l', h1, h2, h3⟩ := h.2 i hi
    obtain ⟨l2, e1, e2⟩ := own_set h3 rfl g j x
    exact ⟨v, l2, h1, e1.trans h2, by rw [e1]; exact e2⟩⟩
theorem Loose.drew {base : Nat} {W : World} {vs : List Value} {ls : List (List UInt8)} (h : Loose base W vs ls) : Loose base W.drew vs ls := h

theorem tells_rows {base : Nat} {W : World} {v : Value} {l : List UInt8} (h : W.ownsRow base 5 1 v l.length (u8s l)) (n m : Nat) : (convert 22 9 v).run Tryd.prog ((W.drewN n).drewN m) = .ok (.string ⟨l.toArray⟩) ((W.drewN n).drewN m) := conv_own (W := (W.drewN n).drewN m) h rfl
theorem tells_views {n₀ : Nat} {W : World} {v : Value} {l : List UInt8} (h : BytesAt n₀ W v l) (n m : Nat) : (convert 22 9 v).run Tryd.prog ((W.drewN n).drewN m) = .ok (.string ⟨l.toArray⟩) ((W.drewN n).drewN m) := conv_at (W := (W.drewN n).drewN m) (n₀ := n₀) h

set_option maxHeartbeats 4000000 in
set_option maxRecDepth 100000 in
theorem same_any (base baseB n₀ : Nat) (xa xb : Option Addr) (ca cb : Nat) (vsA vsB : List Value) (ls : List (List UInt8)) (W : World) (hl1 : ls.length ≤ 1048577) (hl2 : ∀ p ∈ ls, p.length ≤ 1048577)
    (hA : W.ownsRow base 22 1 (.slice xa ls.length ca) ls.length vsA) (hRA : RowsAt base W vsA ls) (hB : W.ownsRow baseB 22 1 (.slice xb ls.length cb) ls.length vsB) (hVB : ViewsAt n₀ W vsB ls) :
    Calls Tryd.prog 8 #[.slice xa ls.length ca, .slice xb ls.length cb] W fun e W' => e = .returned (.bool true) ∧ Below base W W' := by
  have HA := Lib.hid hA
  have HRA := Lib.hid hRA
  have HB := Lib.hid hB
  have HVB := Lib.hid hVB
  have HL2 := Lib.hid hl2
  clear hA hRA hB hVB hl2
  have hne : ((ls.length : Int) != (ls.length : Int)) = false := by simp
  go_enter Tryd.func8, Tryd.ntmps8
  go_wp2
  go_loopw [5, 6] (fun ok i wr => ∃ (k n : Nat), k ≤ ls.length ∧ i = .int .i64 k ∧ ok = .bool true ∧ wr = W.drewN n) (fun _ i _ => ls.length - (intOf i).toNat)
  case atStart => exact ⟨0, 0, Nat.zero_le _, rfl, rfl, rfl⟩
  case round =>
    obtain ⟨k, n, hk, rfl, rfl, rfl⟩ := hrel
    by_cases hlt : k < ls.length
    · obtain ⟨ga, rfl⟩ : ∃ g, xa = some ⟨g, 0, none⟩ := by
        rcases HA.out.2 with ⟨h, h0⟩ | ⟨g, _, _, h, _⟩
        · omega
        · cases h; exact ⟨g, rfl⟩
      obtain ⟨gb, rfl⟩ : ∃ g, xb = some ⟨g, 0, none⟩ := by
        rcases HB.out.2 with ⟨h, h0⟩ | ⟨g, _, _, h, _⟩
        · omega
        · cases h; exact ⟨g, rfl⟩
      obtain ⟨va, eva, ra⟩ := HRA.out.2 k hlt
      obtain ⟨vb, evb, rb⟩ := HVB.out.2 k hlt
      have hca : W.cell? ⟨ga, k, none⟩ = some va := (own_cell HA.out k hlt).trans eva
      have hcb : W.cell? ⟨gb, k, none⟩ = some vb := (own_cell HB.out k hlt).trans evb
      have cva := tells_rows ra n
      have cvb := tells_views rb n
      have cva' := tells_rows ra 0
      have cvb' := tells_views rb 0
      simp only [World.drewN_zero] at cva' cvb'
      obtain ⟨aa, acap, rfl⟩ := own_slice ra
      obtain ⟨ba, blen, bcap, rfl⟩ : ∃ a l c, vb = .slice a l c := by
        rcases rb with ⟨rfl, _⟩ | ⟨b, off, cap, rfl, _⟩
        · exact ⟨_, _, _, rfl⟩
        · exact ⟨_, _, _, rfl⟩
      generalize ls[k] = pl at hca cva cvb cva' cvb' ra rb
      have hltI : (k : Int) < (ls.length : Int) := by omega
      clear eva evb ra rb
      have hpp : (pl == pl) = true := beq_self_eq_true _
      go_wp2
      go_quiet (fail)
      go_wp2
      exact ⟨⟨k + 1, n + nq, by omega, by go_num, rfl, rfl⟩, by simp [intOf]; omega⟩
    · obtain ⟨V, hV⟩ : ∃ V, V = W.drewN n := ⟨_, rfl⟩
      have HA1 : Hid (V.ownsRow base 22 1 (.slice xa ls.length ca) ls.length vsA) := by rw [hV]; exact HA.out
      have HR1 : Hid (Loose base V vsA ls) := by rw [hV]; exact HRA.out.loose
      have hBV : Below base W V := by rw [hV]; exact below_drewN (Below.refl _ _) n
      rw [← hV]
      clear HA HRA HB HVB hV
      go_wp2
      go_loopw [7] (fun i wr => ∃ (m : Nat), m ≤ ls.length ∧ i = .int .i64 m ∧ wr.ownsRow base 22 1 (.slice xa ls.length ca) ls.length vsA ∧ Loose base wr vsA ls ∧ Below base W wr) (fun i _ => ls.length - (intOf i).toNat)
      case atStart => exact ⟨0, Nat.zero_le _, rfl, HA1.out, HR1.out, hBV⟩
      case round =>
        obtain ⟨m, hm, rfl, hoa, hlo, hbl⟩ := hrel
        have HOA := Lib.hid hoa
        have HLO := Lib.hid hlo
        clear hoa hlo
        by_cases hml : m < ls.length
        · obtain ⟨ga, rfl⟩ : ∃ g, xa = some ⟨g, 0, none⟩ := by
            rcases HOA.out.2 with ⟨h, h0⟩ | ⟨g, _, _, h, _⟩
            · omega
            · cases h; exact ⟨g, rfl⟩
          obtain ⟨lv, l', elv, el, rl⟩ := HLO.out.2 m hml
          have hll := HL2.out ls[m] (List.getElem_mem hml)
          have hcl : wr.cell? ⟨ga, m, none⟩ = some lv := (own_cell HOA.out m hml).trans elv
          rw [← el] at hll
          generalize l'.length = N at hll rl
          rcases rl.2 with ⟨rfl, h0⟩ | ⟨gl, cl, cur, rfl, hgl, hgb, hle, hcl', hsz', htk⟩
          · subst h0
            go_wp2
            go_loop [8] (fun j => j = .int .i64 0) (fun _ => 0)
            case atStart => rfl
            case round =>
              obtain rfl := hrel
              go_wp2
              exact ⟨⟨m + 1, by omega, by go_num, HOA.out, HLO.out, hbl⟩, by simp [intOf]; omega⟩
          · have hunf : maxLen = 9223372036854775807 := by decide
            have hclm : cl ≤ 9223372036854775807 := by rw [← hunf]; exact hcl'
            have HRL : Hid (∃ l2 : List UInt8, l2.length = N ∧ wr.ownsRow base 5 1 (.slice (some ⟨gl, 0, none⟩) N cl) N (u8s l2)) := ⟨l', by have := rl.1; rw [u8s_length] at this; omega, rl⟩
            clear hgb htk hsz' hunf hcl' rl hcl
            go_wp2
            go_loopw [8] (fun j w3 => ∃ (q : Nat), q ≤ N ∧ j = .int .i64 q ∧ w3.ownsRow base 22 1 (.slice (some ⟨ga, 0, none⟩) ls.length ca) ls.length vsA ∧ Loose base w3 vsA ls ∧ Below base W w3 ∧ (∃ l2 : List UInt8, l2.length = N ∧ w3.ownsRow base 5 1 (.slice (some ⟨gl, 0, none⟩) N cl) N (u8s l2))) (fun j _ => N - (intOf j).toNat)
            case atStart => exact ⟨0, Nat.zero_le _, rfl, HOA.out, HLO.out, hbl, HRL.out⟩
            case round =>
              obtain ⟨q, hq, rfl, hoa3, hlo3, hbl3, l2, el2, rl2⟩ := hrel
              rename World => w3
              have hc3 : w3.cell? ⟨ga, m, none⟩ = some (.slice (some ⟨gl, 0, none⟩) N cl) := (own_cell hoa3 m hml).trans elv
              have HO3 := Lib.hid hoa3
              have HL3 := Lib.hid hlo3
              have HR3 := Lib.hid rl2
              by_cases hql : q < N
              · have hcq : w3.cell? ⟨gl, q, none⟩ = some (.int .u8 ((l2[q]?.getD 0).toNat : Int)) := by rw [own_cell rl2 q hql]; simp [u8s, show q < l2.length by omega]
                have hfq : w3.frozen? ⟨gl, q, none⟩ = false := own_frozen rl2 q
                generalize l2[q]?.getD 0 = xb at hcq
                have hxb := xb.toNat_lt
                clear hoa3 hlo3 rl2
                have hmI : (m : Int) < (ls.length : Int) := by omega
                have hqI : (q : Int) < (N : Int) := by omega
                have hclI : (N : Int) ≤ 9223372036854775807 := by omega
                go_wp2
                go_region
                all_goals go_wp2
                have hx : ((xb.toNat : Int) + 1) % 256 = ((xb + 1).toNat : Int) := by rw [UInt8.toNat_add]; rfl
                rw [hx]
                obtain ⟨l3, e3, r3⟩ := own_set HR3.out el2 gl q (xb + 1)
                have ko := HO3.out.kept (grown_set w3 gl q (.int .u8 ((xb + 1).toNat : Int))) (own_other HO3.out HR3.out (by decide))
                exact ⟨⟨q + 1, by omega, by go_num, ko, (HL3.out.set gl q (xb + 1)).drew, (hbl3.setCell (p := ⟨gl, q, none⟩) hgl _).drew, l3, e3.trans el2, r3⟩, by simp [intOf]; omega⟩
              · clear hoa3 hlo3 rl2
                go_wp2
                exact ⟨⟨m + 1, by omega, by go_num, HO3.out, HL3.out, hbl3⟩, by simp [intOf]; omega⟩
        · go_wp2
          go_ret
          exact ⟨rfl, hbl⟩
end Go.Proofs.YtcpclpckjheadaaDoor
