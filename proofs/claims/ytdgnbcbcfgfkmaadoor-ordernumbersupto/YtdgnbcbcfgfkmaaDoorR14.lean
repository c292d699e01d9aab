/- The keys of the options, as the landed code reads them. -/
import Derived.Test.YtdgnbcbcfgfkmaaDoorR13b
namespace Go.Proofs.YtdgnbcbcfgfkmaaDoor
open Go.RowKit Go.Shelf

def KeyK (o : Option Ky) (e : Ending) : Prop :=
  match o with
  | none => e = .returned (.tuple #[zeroK, .bool false])
  | some k => ∃ r : KR, e = .returned (.tuple #[.agg r.cells, .bool true]) ∧ KOk k r
theorem keyOf_k (s : ByteArray) (all : Nat) (w : World) (hs : s.size ≤ 2097152) (hall : all < 64) :
    Calls Tryd.prog 33 #[.string s, .int .u64 (all : Int)] w fun e w' => KeyK (keyS s.data.toList (fgOf all all)) e ∧ Below w.heap.size w w' := by
  refine (keyOf_c s all w hs hall).mono fun e w' ⟨h1, h2⟩ => ⟨?_, h2⟩
  have hk := keyS_L s.data.toList all hall
  cases hn : keyL s.data.toList all with
  | none =>
    rw [hn] at hk h1
    have hk' : keyS s.data.toList (fgOf all all) = none := hk
    rw [hk']
    exact h1
  | some n =>
    rw [hn] at hk h1
    obtain ⟨k, e1, e2⟩ : ∃ k, keyS s.data.toList (fgOf all all) = some k ∧ KyR k n.F1 n.C1 n.x1 n.F2 n.C2 n.x2 := hk
    obtain ⟨g, gf, e3, e4⟩ : ∃ g gf, e = .returned (.tuple #[keyV n.F1 n.C1 n.x1 n.F2 n.C2 n.x2 (.func (.func g) gf #[]), .bool true]) ∧ FnC (.func (.func g) gf #[]) (cmpF (n.x1 ||| n.x2)) := h1
    rw [e1]
    exact ⟨⟨n.F1, n.C1, n.x1, n.F2, n.C2, n.x2, g, gf⟩, e3, ⟨e2, by rw [← kcmp_or k n.x1 n.x2 e2.fl]; exact e4⟩⟩
theorem info_kL : (Tryd.prog.info? 74).map (fun i => (i.zero, i.size, i.bytes)) = some (some (.agg #[.int .i64 0, .int .i64 0, .int .u64 0, .int .i64 0, .int .i64 0, .int .u64 0, .nilFunc]), 7, 56) := by kernel_rfl
theorem keyS_one (g : Fg) : keyS [49] g = some (oneKey g) := by
  rfl
theorem news7 (w : World) (cs : Array Value) (t : Nat) : ∀ j u, cs.toList[j]? = some u → (w.alloc (.cells cs t)).cell? ((⟨w.heap.size, 0, none⟩ : Addr).add j) = some u :=
  World.news_of_block (by rw [heap_al]; exact if_pos rfl)
theorem news8 (w : World) (o : Obj) (cs : Array Value) (t : Nat) : ∀ j u, cs.toList[j]? = some u → ((w.alloc o).alloc (.cells cs t)).cell? ((⟨w.heap.size + 1, 0, none⟩ : Addr).add j) = some u := by
  have := news7 (w.alloc o) cs t
  rw [World.size_alloc] at this
  exact this
theorem store_nf7 (w : World) (x0 x1 x2 x3 x4 x5 : Value) (t : Nat) : (store ⟨w.heap.size, 6, none⟩ .nilFunc).run Tryd.prog (w.alloc (.cells #[x0, x1, x2, x3, x4, x5, .nilFunc] t)) = .ok () (w.alloc (.cells #[x0, x1, x2, x3, x4, x5, .nilFunc] t)) := by
  have hn : (w.alloc (.cells #[x0, x1, x2, x3, x4, x5, .nilFunc] t)).heap[w.heap.size]? = some (.cells #[x0, x1, x2, x3, x4, x5, .nilFunc] t) := by show (w.heap.push _)[w.heap.size]? = _; simp
  have hc := cell_of hn 6 rfl
  have hz := fz_of hn 6
  have : (store ⟨w.heap.size, 6, none⟩ .nilFunc).run Tryd.prog (w.alloc (.cells #[x0, x1, x2, x3, x4, x5, .nilFunc] t)) = .ok () ((w.alloc (.cells #[x0, x1, x2, x3, x4, x5, .nilFunc] t)).setCell ⟨w.heap.size, 6, none⟩ .nilFunc) := by simp [store, Sem.run, hc, hz]
  rw [this]
  simp [go_sem]
theorem kr_row (w : World) (r : KR) : (w.alloc (.cells r.cells 74)).ownsRow 0 74 7 (.slice (some ⟨w.heap.size, 0, none⟩) 1 1) 1 (krCells [r]) := by
  refine ⟨rfl, .inr ⟨w.heap.size, 1, r.cells, rfl, Nat.zero_le _, ?_, by decide, by decide, rfl, rfl⟩⟩
  rw [heap_al, if_pos rfl]
/-- What stands of the keys that were read. -/
structure KsL (w : World) (ov : Value) (ks : List Ky) (rs : List KR) (wr : World) : Prop where
  row : wr.ownsRow w.heap.size 74 7 ov rs.length (krCells rs)
  len : rs.length = ks.length
  ok : ∀ i (h : i < ks.length) (h' : i < rs.length), KOk ks[i] rs[i]
  bl : Below w.heap.size w wr
set_option maxHeartbeats 3000000 in
set_option maxRecDepth 100000 in
theorem keysOf_c (v : Value) (l : Opts) (all : Nat) (w : World) (hl : l.length ≤ 2097152) (hq : ∀ q ∈ l, q.2.size ≤ 2097152) (hall : all < 64) (hO : OpAt w v l) :
    Calls Tryd.prog 21 #[v, .int .u64 (all : Int)] w fun e w' => (match keysS (fgOf all all) l [] with
      | none => e = .returned (.tuple #[.slice none 0 0, .bool false])
      | some ks => ∃ kv rs, e = .returned (.tuple #[kv, .bool true]) ∧ w'.ownsRow 0 74 7 kv rs.length (krCells rs) ∧ rs.length = (orOne (fgOf all all) ks).length ∧ (∀ i (h : i < (orOne (fgOf all all) ks).length) (h' : i < rs.length), KOk (orOne (fgOf all all) ks)[i] rs[i]) ∧ rs.length ≤ 2097153) ∧ Below w.heap.size w w' := by
  obtain ⟨i0, hi, hz0, hz1, hz2⟩ := info_parts2 info_kL
  obtain ⟨x, cp, rfl⟩ := hO.shape
  have HO := Lib.hid hO
  have HQ := Lib.hid hq
  have HK := Lib.hid (fun s u (h : s.size ≤ 2097152) => keyOf_k s all u h hall)
  obtain ⟨R, hR⟩ : ∃ R, keysS (fgOf all all) l [] = R := ⟨_, rfl⟩
  rw [hR]
  have HR : Hid (keysS (fgOf all all) (l.drop 0) [] = R) := hR
  clear hO hq hR
  generalize fgOf all all = g at *
  generalize hn : l.length = n at hl ⊢
  have HN := Lib.hid hn
  clear hn
  go_enter Tryd.func21, Tryd.ntmps21
  go_wp2_with fail
  go_loopw [6, 15] (fun ov iv wr => ∃ (k : Nat) (ks : List Ky) (rs : List KR), k ≤ n ∧ rs.length ≤ k ∧ iv = .int .i64 (k : Int) ∧ Hid (keysS g (l.drop k) ks = R) ∧ Hid (KsL w ov ks rs wr)) (fun _ iv _ => n - (intOf iv).toNat)
  case atStart => exact ⟨0, [], [], by omega, by simp, rfl, HR, ⟨World.ownsRow_nil _ _ _ _, rfl, fun i h => by simp at h, Below.refl _ _⟩⟩
  case round =>
    obtain ⟨k, ks, rs, hk, hrs, rfl, HI, HS⟩ := hrel
    clear HR
    obtain ⟨xo, co, rfl⟩ := own_slice2 HS.out.row
    by_cases hlt : k < n
    · have hkl : k < l.length := by rw [HN.out]; exact hlt
      have hJ := HI.out
      rw [keysS_drop g l k hkl] at hJ
      obtain ⟨b, off, rfl, _, c0, c1⟩ := (HO.out.below HS.out.bl).get k hkl
      have hsz := HQ.out (nthO l k) (by simp [nthO, hkl])
      generalize (nthO l k).1 = c at *
      generalize (nthO l k).2 = s at *
      have hbA : Below wr.heap.size wr (wr.alloc (.cells #[.int .u8 (c.toNat : Int), .string s] 63)) := (Below.refl _ _).alloc (Nat.le_refl _) _
      by_cases hc : c = 107
      · have he : ((c.toNat : Int) != 107) = false := by rw [hc]; rfl
        rw [if_pos hc] at hJ
        have HJ := Lib.hid hJ
        have HA := Lib.hid hbA
        have hkey := HK.out s (wr.alloc (.cells #[.int .u8 (c.toNat : Int), .string s] 63)) hsz
        clear hJ HI hc hbA
        go_wp2_with fail
        refine hkey.mono ?_
        rintro e w1 ⟨hr, hb1⟩
        have hB1 : Below wr.heap.size wr w1 := below_then HA.out hb1
        have HS1 : Hid (KsL w (.slice xo rs.length co) ks rs w1) := ⟨own_below HS.out.row hB1, HS.out.len, HS.out.ok, below_then HS.out.bl hB1⟩
        clear hkey hb1 hB1 HA HS
        generalize keyS s.data.toList g = KS at *
        cases KS with
        | none =>
          have hr' : e = .returned (.tuple #[.agg #[.int .i64 0, .int .i64 0, .int .u64 0, .int .i64 0, .int .i64 0, .int .u64 0, .nilFunc], .bool false]) := hr
          subst hr'
          have hRn : R = none := HJ.out.symm
          subst hRn
          clear hr HJ
          have hsn := store_nf7 w1
          have HBf : Hid (∀ o, Below w.heap.size w (w1.alloc o)) := fun o => HS1.out.bl.alloc HS1.out.bl.size o
          clear HS1
          go_wp2_with fail
          go_ret2
          exact ⟨rfl, HBf.out _⟩
        | some q =>
          obtain ⟨r, e3, hok⟩ : ∃ r : KR, e = .returned (.tuple #[.agg #[.int .i64 (r.F1 : Int), .int .i64 (r.C1 : Int), .int .u64 (r.x1 : Int), .int .i64 (r.F2 : Int), .int .i64 (r.C2 : Int), .int .u64 (r.x2 : Int), .func (.func r.g) r.gf #[]], .bool true]) ∧ KOk q r := hr
          subst e3
          have hsf := store_fn7 w1
          have HOK := Lib.hid hok
          have HJ2 : Hid (keysS g (l.drop (k + 1)) (ks ++ [q]) = R) := HJ.out
          clear HJ hok
          go_wp2_with (first | (at_builtin; go_loud (refine wpList_append_own _ rfl _ _ 50 rfl w.heap.size 74 i0 (.agg #[.int .i64 0, .int .i64 0, .int .u64 0, .int .i64 0, .int .i64 0, .int .u64 0, .nilFunc]) 7 56 Tryd.underlying50 hi hz0 hz1 hz2 rfl (by decide) _ _ _ rfl ((HS1.out.row.alloc _).alloc _) ⟨w1.heap.size + 1, 0, none⟩ 1 1 r.cells.toList rfl rfl (news8 w1 _ r.cells _) (by simp [KR.cells, keyC, Value.oneCell']) (by unfold maxLen; omega) (by omega) (by have := HS1.out.bl.size; simp; omega) ?_; intro v2 w2 hown2 hgrow2 _)))
          have hbw2 : Below w.heap.size w w2 := ((HS1.out.bl.alloc HS1.out.bl.size _).alloc (by have := HS1.out.bl.size; simp; omega) _).grown hgrow2 (by have := HS1.out.bl.size; simp; omega) (fun j ej => own_ge2 HS1.out.row j ej)
          refine ⟨⟨k + 1, ks ++ [q], rs ++ [r], by omega, by simp; omega, by go_num, HJ2, ⟨?_, ?_, ?_, hbw2⟩⟩, by simp [intOf]; omega⟩
          · rw [krCells_snoc, List.length_append]; exact hown2
          · rw [List.length_append, List.length_append, HS1.out.len]; rfl
          · intro i h h'
            by_cases hi2 : i < ks.length
            · rw [List.getElem_append_left hi2, List.getElem_append_left (by rw [HS1.out.len]; exact hi2)]; exact HS1.out.ok i hi2 _
            · have e1 : i = ks.length := by simp at h; omega
              subst e1
              rw [List.getElem_append_right (by omega), List.getElem_append_right (by rw [HS1.out.len]; omega)]
              simp only [HS1.out.len, Nat.sub_self, List.getElem_cons_zero]
              exact HOK.out
      · have he : ((c.toNat : Int) != 107) = true := by
          have h6 : ((c.toNat : Int) == 107) = false := u8_no (a := c) 107 (by omega) hc
          simp only [bne, h6]; rfl
        rw [if_neg hc] at hJ
        have HJ := Lib.hid hJ
        have HS1 : Hid (KsL w (.slice xo rs.length co) ks rs (wr.alloc (.cells #[.int .u8 (c.toNat : Int), .string s] 63))) := ⟨own_below HS.out.row hbA, HS.out.len, HS.out.ok, below_then HS.out.bl hbA⟩
        clear hJ HI hc hbA HS
        go_wp2_with fail
        exact ⟨⟨k + 1, ks, rs, by omega, by omega, by go_num, HJ, HS1⟩, by simp [intOf]; omega⟩
    · have hRk : R = some ks := by
        have := HI.out
        rw [List.drop_eq_nil_of_le (by rw [HN.out]; omega)] at this
        exact this.symm
      subst hRk
      clear HI
      by_cases h0 : 0 < rs.length
      · have hks : ks ≠ [] := by rintro rfl; rw [HS.out.len] at h0; simp at h0
        have hor : orOne g ks = ks := by unfold orOne; rw [if_neg hks]
        have h0' : (0 : Int) < (rs.length : Int) := by omega
        have HE : Hid (wr.ownsRow 0 74 7 (.slice xo rs.length co) rs.length (krCells rs) ∧ rs.length = (orOne g ks).length ∧ (∀ i (h : i < (orOne g ks).length) (h' : i < rs.length), KOk (orOne g ks)[i] rs[i]) ∧ rs.length ≤ 2097153) := by
          refine ⟨own_zero HS.out.row, ?_⟩
          rw [hor]
          exact ⟨HS.out.len, HS.out.ok, by omega⟩
        have HBf := Lib.hid HS.out.bl
        clear hor hks HS
        go_wp2_with fail
        go_ret2
        first | exact ⟨⟨_, rfl, rs, HE.out⟩, HBf.out⟩ | exact ⟨⟨_, rs, rfl, HE.out⟩, HBf.out⟩
      · have hr0 : rs.length = 0 := by omega
        have hks : ks = [] := List.length_eq_zero_iff.1 (by rw [← HS.out.len]; exact hr0)
        subst hks
        have h1 := HK.out ⟨#[49]⟩ wr (by decide)
        have e1 : keyS (⟨#[49]⟩ : ByteArray).data.toList g = some (oneKey g) := keyS_one g
        rw [e1] at h1
        have h0' : ¬ (0 : Int) < (rs.length : Int) := by omega
        have HBf := Lib.hid HS.out.bl
        clear e1 HS h0
        go_wp2_with fail
        refine h1.mono ?_
        rintro e w1 ⟨hr, hb1⟩
        obtain ⟨r, e3, hok⟩ : ∃ r : KR, e = .returned (.tuple #[.agg #[.int .i64 (r.F1 : Int), .int .i64 (r.C1 : Int), .int .u64 (r.x1 : Int), .int .i64 (r.F2 : Int), .int .i64 (r.C2 : Int), .int .u64 (r.x2 : Int), .func (.func r.g) r.gf #[]], .bool true]) ∧ KOk (oneKey g) r := hr
        subst e3
        have hsf := store_fn7 w1
        have HB1 := Lib.hid (below_then HBf.out hb1)
        have HOK := Lib.hid hok
        clear h1 hb1 hok HBf
        have HE := Lib.hid (kr_row (w1.alloc (.cells #[.int .i64 (r.F1 : Int), .int .i64 (r.C1 : Int), .int .u64 (r.x1 : Int), .int .i64 (r.F2 : Int), .int .i64 (r.C2 : Int), .int .u64 (r.x2 : Int), .func (.func r.g) r.gf #[]] 74)) r)
        have HBE : Hid (Below w.heap.size w ((w1.alloc (.cells #[.int .i64 (r.F1 : Int), .int .i64 (r.C1 : Int), .int .u64 (r.x1 : Int), .int .i64 (r.F2 : Int), .int .i64 (r.C2 : Int), .int .u64 (r.x2 : Int), .func (.func r.g) r.gf #[]] 74)).alloc (.cells r.cells 74))) := (HB1.out.alloc HB1.out.size _).alloc (by have := HB1.out.size; simp; omega) _
        unfold KR.cells keyC at HE HBE
        rw [World.size_alloc] at HE
        go_wp2_with fail
        go_ret2
        refine ⟨⟨_, rfl, [r], HE.out, rfl, ?_, by simp⟩, HBE.out⟩
        intro i h h'
        have e0 : i = 0 := by simp at h'; omega
        subst e0
        exact HOK.out
end Go.Proofs.YtdgnbcbcfgfkmaaDoor
