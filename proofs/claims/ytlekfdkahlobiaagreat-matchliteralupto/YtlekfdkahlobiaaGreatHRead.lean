/- The builder: what came of the text. -/
import Derived.Test.YtlekfdkahlobiaaGreatHSt5
import Derived.Test.YtlekfdkahlobiaaGreatHSt8
namespace Go.Proofs.YtlekfdkahlobiaaGreat.Re
open Go.Proofs.YtlekfdkahlobiaaGreat.Tr
open Go.RowKit

theorem res_re2 {fn : Func} {p u : Tmp} (h : fn.results = #[.cell p 38, .tmp u]) {tmps : Array Value} {w : World} {b : Nat} {v : Value} {z : Int} {x : Value} (hp : tmps.getD p undef = .pointer (some ⟨b, 0, none⟩)) (hg : ReB w b v z) (hx : tmps.getD u undef = x) : (results fn tmps).run Tryz.prog w = .ok (.tuple #[.agg #[v, .int .i64 z], x]) w := by
  rw [results_cell_tmp h, hp, hx]
  simp [asAddr, Result.andThen, run_loadVar_row w b 38 38 #[v, .int .i64 z] (0, 0) _ hg Tryz.underlying38 rfl infoRe]
/-- What whole answers. -/
def WhO (x : Nd) (w : World) (e : Ending) (w' : World) : Prop := Below w.heap.size w w' ∧ if 10000 < x.size then e = .returned (.tuple #[.agg #[.pointer none, .int .i64 0], .bool false]) else ∃ v, e = .returned (.tuple #[reV v x, .bool true]) ∧ NodeP w' v x
theorem szI_gt (x : Nd) : (10000 : Int) < szI x ↔ 10000 < x.size := by unfold szI; split <;> omega
section
variable {w : World} {rb : Nat} {l : List UInt8} {ext fold cl : Bool} {pv ov : Value} {last depth made : Int}
set_option maxHeartbeats 1000000 in
set_option maxRecDepth 100000 in
theorem whole_c {x : Nd} (h : Rd w rb l ext fold last depth cl pv ov made) (hb : BdX w rb pv ov made [x] []) : Calls Tryz.prog 39 #[bldP rb] w (WhO x w) := by
  have hf : ∀ o, Calls Tryz.prog 60 #[bldP rb] (w.alloc o) fun e w' => e = .returned (.bool (decide (10000 < made))) ∧ w' = w.alloc o := fun o => isFull_c (h.keep ((Below.refl _ w).alloc (Nat.le_refl _) o))
  have hB : ∀ o, Below w.heap.size w (w.alloc o) := fun o => (Below.refl _ w).alloc (Nat.le_refl _) o
  have hwt := hb.wt
  rw [sizes_one] at hwt
  by_cases hm : 10000 < made
  · rw [decide_eq_true hm] at hf
    have HX : Hid (10000 < x.size) := (show 10000 < x.size by omega)
    clear h hb hwt
    go_enter Tryz.func39, Tryz.ntmps39
    go_wp2_with (go_at_call 60; refine (hf _).mono ?_; rintro e w1 ⟨rfl, hw⟩; rw [hw]; clear hw w1)
    refine bodyPost_ret (res_re2 rfl (b := w.heap.size) (v := .pointer none) (z := 0) rfl (al_new _ _) rfl) rfl ?_
    exact ⟨hB _, by rw [if_pos HX.out]; rfl⟩
  · rw [decide_eq_false hm] at hf
    obtain ⟨L, r1, r2, r3⟩ := (hb.row (by omega)).row
    obtain ⟨v, rfl⟩ : ∃ v, L = [(v, x)] := by
      match L, r2 with
      | [p], r2 =>
        have : p.2 = x := by simpa using r2
        exact ⟨p.1, by rw [← this]⟩
      | [], r2 => simp at r2
      | _ :: _ :: _, r2 => simp at r2
    obtain ⟨g, cap, rfl, hg0, hgl, hle, hcap, hRI⟩ := row_from r1 r3 (by simp)
    have hR0 := hRI 0
    have d0 := cell_al (hR0.at0 0 (v, x) rfl)
    have d1 := cell_al (hR0.at1 0 (v, x) rfl)
    simp only [Nat.zero_mul, Nat.zero_add] at d0 d1
    have hnx := hR0.nd 0 (v, x) rfl
    obtain ⟨pb, rfl, hpl⟩ := hnx.ptr
    have HN := Lib.hid hnx
    have c6 := cell_al (h_cell h 6 rfl)
    clear h hb hwt r1 r2 r3 hRI hR0 hnx
    by_cases hx : 10000 < x.size
    · have g1 : (10000 : Int) < szI x := (szI_gt x).2 hx
      go_enter Tryz.func39, Tryz.ntmps39
      go_wp2_with (go_at_call 60; refine (hf _).mono ?_; rintro e w1 ⟨rfl, hw⟩; rw [hw]; clear hw w1)
      refine bodyPost_ret (res_re2 rfl (b := w.heap.size) (v := .pointer none) (z := 0) rfl (al_new _ _) rfl) rfl ?_
      exact ⟨hB _, by rw [if_pos hx]; rfl⟩
    · have g1 : ¬ (10000 : Int) < szI x := fun e => hx ((szI_gt x).1 e)
      go_enter Tryz.func39, Tryz.ntmps39
      go_wp2_with (go_at_call 60; refine (hf _).mono ?_; rintro e w1 ⟨rfl, hw⟩; rw [hw]; clear hw w1)
      refine bodyPost_ret (res_re2 rfl (b := w.heap.size) (v := ptr pb) (z := szI x) rfl (al_new _ _) rfl) rfl ?_
      exact ⟨hB _, by rw [if_neg hx]; exact ⟨ptr pb, rfl, HN.out.keep (NKeep.of (hB _))⟩⟩
end
end Go.Proofs.YtlekfdkahlobiaaGreat.Re

namespace Go.Proofs.YtlekfdkahlobiaaGreat.Re
open Go.Proofs.YtlekfdkahlobiaaGreat.Tr
open Go.RowKit

def NeM (m : Ms) : Prop := ∀ q, m = some q → q.2.2 ≠ []
theorem neM_none : NeM none := fun _ h => by cases h
theorem neM_some {q : List UInt8 × Nat × List Fr} (h : q.2.2 ≠ []) : NeM (some q) := fun _ e => by cases e; exact h
theorem neM_ite {c : Prop} [Decidable c] {a b : Ms} (ha : NeM a) (hb : NeM b) : NeM (if c then a else b) := by split <;> assumption
theorem len_ne {fs : List Fr} (h : 0 < fs.length) : fs ≠ [] := List.length_pos_iff.1 h
section
variable {fold : Bool} {f : Fr} {fs : List Fr}
theorem neM_atom {r : R1} : NeM (atomM (f :: fs) r) := by
  intro q e
  cases r with
  | none => cases e
  | some u => cases e; exact len_ne (by rw [pieceF_len]; simp)
theorem neM_rep {last : Nat} {a b : Int} {r : List UInt8} : NeM (repM last (f :: fs) a b r) := neM_ite (neM_some (len_ne (by rw [repF_len]; simp))) neM_none
theorem neM_bounds {last : Nat} {t : Tm} : NeM (boundsM last (f :: fs) t) := by
  cases t with
  | none => exact neM_none
  | some u => exact neM_rep
theorem neM_shut {ext : Bool} {last : Nat} {r : List UInt8} : NeM (shutM ext last (f :: fs) r) := by
  unfold shutM
  split
  · exact neM_none
  · refine neM_ite neM_none (neM_some ?_)
    cases fs with
    | nil => rename_i h; exact absurd rfl h
    | cons g fs => exact len_ne (by show 0 < (pieceF _ (g :: fs)).length; rw [pieceF_len]; simp)
theorem neM_plain {c : UInt8} {r : List UInt8} : NeM (plainM fold (f :: fs) c r) := neM_ite neM_atom (neM_ite neM_atom neM_atom)
theorem stepM_ne {ext : Bool} {last : Nat} {c : UInt8} {r : List UInt8} : NeM (stepM ext fold last (f :: fs) c r) := by
  have hp : ∀ x, pieceF x (f :: fs) ≠ [] := fun x => len_ne (by rw [pieceF_len]; simp)
  unfold stepM
  refine neM_ite ?_ ?_
  · unfold stepX
    repeat' (first | exact neM_none | exact neM_plain | exact neM_rep | exact neM_bounds | exact neM_atom | exact neM_shut | exact neM_some (List.cons_ne_nil _ _) | exact neM_some (hp _) | exact neM_some (len_ne (by rw [branchF_len]; simp)) | refine neM_ite ?_ ?_)
  · unfold stepP
    refine neM_ite ?_ ?_
    · cases r with
      | nil => exact neM_none
      | cons d t =>
        unfold escB
        repeat' (first | exact neM_none | exact neM_rep | exact neM_bounds | exact neM_atom | exact neM_shut | exact neM_some (List.cons_ne_nil _ _) | refine neM_ite ?_ ?_)
    · repeat' (first | exact neM_none | exact neM_plain | exact neM_rep | exact neM_some (hp _) | refine neM_ite ?_ ?_)
end
section
variable {w : World} {rb : Nat}
theorem step_c {ext fold : Bool} {c : UInt8} {r : List UInt8} {f : Fr} {fs : List Fr} {last : Nat} (hA : AmM w rb) (h : RS rb ext fold w (c :: r) last (f :: fs)) : Calls Tryz.prog (if ext = true then 35 else 34) #[ptr rb] w (RO rb ext fold w (stepM ext fold last (f :: fs) c r)) := by
  cases ext with
  | true => exact extended_c hA h
  | false => exact basic_c hA h
/-- What read answers. -/
def ReO (o : Option Nd) (w : World) (e : Ending) (w' : World) : Prop :=
  Below w.heap.size w w' ∧ match o with
    | none => e = .panicked gaveUp
    | some x => if 10000 < x.size then e = .returned (.tuple #[.agg #[.pointer none, .int .i64 0], .bool false]) else ∃ v, e = .returned (.tuple #[reV v x, .bool true]) ∧ NodeP w' v x
/-- The reader between two steps. -/
structure RdI (rb : Nat) (ext fold : Bool) (w wr : World) (R : Option Nd) (l : List UInt8) (last : Nat) (f : Fr) (fs : List Fr) : Prop where
  rs : RS rb ext fold wr l last (f :: fs)
  bel : Below rb w wr
  am : AmM wr rb
  go : runM ext fold l last (f :: fs) = R
theorem rs_start {m : Int} (s : List UInt8) (ext fold : Bool) (hs : s.length ≤ 1048640) (hG : 0 < w.heap.size) (hm : w.cell? ⟨0, 0, none⟩ = some (.int .i64 m)) : RS (w.heap.size + 1) ext fold ((w.alloc (.cells #[.pointer none, .int .i64 0] 38)).alloc (.cells #[.string (bs s), .bool ext, .bool fold, .int .i64 0, .int .i64 0, .bool false, .slice none 0 0, .slice none 0 0, .int .i64 0] 90)) s 0 [] ∧ ReB ((w.alloc (.cells #[.pointer none, .int .i64 0] 38)).alloc (.cells #[.string (bs s), .bool ext, .bool fold, .int .i64 0, .int .i64 0, .bool false, .slice none 0 0, .slice none 0 0, .int .i64 0] 90)) w.heap.size (.pointer none) 0 ∧ Below w.heap.size w ((w.alloc (.cells #[.pointer none, .int .i64 0] 38)).alloc (.cells #[.string (bs s), .bool ext, .bool fold, .int .i64 0, .int .i64 0, .bool false, .slice none 0 0, .slice none 0 0, .int .i64 0] 90)) ∧ AmM ((w.alloc (.cells #[.pointer none, .int .i64 0] 38)).alloc (.cells #[.string (bs s), .bool ext, .bool fold, .int .i64 0, .int .i64 0, .bool false, .slice none 0 0, .slice none 0 0, .int .i64 0] 90)) (w.heap.size + 1) := by
  have hB : Below w.heap.size w ((w.alloc (.cells #[.pointer none, .int .i64 0] 38)).alloc (.cells #[.string (bs s), .bool ext, .bool fold, .int .i64 0, .int .i64 0, .bool false, .slice none 0 0, .slice none 0 0, .int .i64 0] 90)) := ((Below.refl _ w).alloc (Nat.le_refl _) _).alloc (by simp) _
  refine ⟨⟨false, .slice none 0 0, .slice none 0 0, 0, ?_, BdR.bd ⟨Int.le_refl _, by omega, ?_, ?_, ⟨[], World.ownsRow_nil _ _ _ _, rfl, fun i p hp => by simp at hp⟩, World.ownsRow_nil _ _ _ _⟩, fun e => absurd e (by simp), by simp only [List.length_nil]; omega, fun e => absurd e (by omega)⟩, ?_, hB, ⟨by omega, m, cell_below hB hm⟩⟩
  · have := al_new (w.alloc (.cells #[.pointer none, .int .i64 0] 38)) (.cells #[.string (bs s), .bool ext, .bool fold, .int .i64 0, .int .i64 0, .bool false, .slice none 0 0, .slice none 0 0, .int .i64 0] 90)
    rw [al_size] at this
    exact this
  · show (0 : Int) ≤ ((Nd.size.sizes (flat [])) : Int); omega
  · exact Int.le_refl _
  · exact (al_old _ _ (by rw [al_size]; omega)).trans (al_new _ _)
theorem rend_of {wr : World} {rb : Nat} {ext fold cl : Bool} {pv ov : Value} {md : Int} {f : Fr} {fs : List Fr} {last : Nat} {l : List UInt8} (hR : Rd wr rb l ext fold (last : Int) ((f :: fs).length : Int) cl pv ov md) (hb : Bd wr rb pv ov md (f :: fs)) (hl : (f :: fs).length + l.length ≤ 2097152) : Calls Tryz.prog 37 #[ptr rb] wr (RX rb l ext fold (last : Int) (fs.length : Int) cl wr (fun w' pv' ov' made' => BdX w' rb pv' ov' made' (flat fs ++ [joinN 5 (f.1 ++ [joinN 4 f.2])]) (spansF fs)) (decide (ext = true ∧ last ≤ 1))) := by
  rw [show (((f :: fs).length : Nat) : Int) = (fs.length : Int) + 1 by simp] at hR
  exact rend_c hR hb (by simp only [List.length_cons] at hl; omega)
set_option maxHeartbeats 2000000 in
set_option maxRecDepth 100000 in
theorem read_c {m : Int} (s : List UInt8) (ext fold : Bool) (hs : s.length ≤ 1048640) (hG : 0 < w.heap.size) (hm : w.cell? ⟨0, 0, none⟩ = some (.int .i64 m)) : Calls Tryz.prog 28 #[.string (bs s), .bool ext, .bool fold] w (ReO (readS id ext fold s) w) := by
  have hmf : ∀ (fn : Fn) (first cap : Array Value) (w : World), (Instr.makeFunc fn first cap).run Tryz.prog w = .ok (.func fn first cap) w := fun _ _ _ _ => rfl
  cases ext with
  | true =>
    have hst0 := rs_start (w := w) s true fold hs hG hm
    have hcf : ∀ (z : Array Value) (u : World), (callFunc 35 z).run Tryz.prog u = .ok (.enter 35 z) u := fun _ _ => by kernel_rfl
    go_enter Tryz.func28, Tryz.ntmps28
    go_upto_region 5 with fail
    generalize (w.alloc (.cells #[.pointer none, .int .i64 0] 38)).alloc (.cells #[.string (bs s), .bool true, .bool fold, .int .i64 0, .int .i64 0, .bool false, .slice none 0 0, .slice none 0 0, .int .i64 0] 90) = W at hst0 ⊢
    obtain ⟨hRS, hRe, hBw, hAm⟩ := hst0
    have hbg := rbegin_c hRS (by simp only [List.length_nil]; omega)
    have HW := Lib.hid (And.intro hRe (And.intro hBw hAm))
    obtain ⟨R, hR⟩ : ∃ R, readS id true fold s = R := ⟨_, rfl⟩
    have HR : Hid (runM true fold s 0 [([], [])] = R) := by show _ = _; rw [run_read, hR]
    have HRR := Lib.hid hR
    clear hRS hRe hBw hAm hR
    go_wp2_with (go_at_call 36; refine hbg.mono ?_; rintro e w1 ⟨hB1, rfl, hS1⟩; have HI0 : Hid (RdI (w.heap.size + 1) true fold W w1 R s 0 ([], []) []) := ⟨hS1, hB1, HW.out.2.2.keep hB1, HR.out⟩; clear hB1 hS1)
    clear hbg HR
    go_loopw [] (fun wr => ∃ l last f fs, Hid (RdI (w.heap.size + 1) true fold W wr R l last f fs)) (fun wr => leftW wr (w.heap.size + 1))
    case atStart => exact ⟨s, 0, ([], []), [], HI0⟩
    case round =>
      obtain ⟨l, last, f, fs, HI⟩ := hrel
      clear HI0
      obtain ⟨cl, pv, ov, md, hRd, hBd, hcl, hlen, htop⟩ := HI.out.rs
      have c0 := h_cell hRd 0 rfl
      have HL := Lib.hid hRd.leftW
      cases l with
      | nil =>
        have e0 := emp_yes
        have hen := rend_of hRd hBd hlen
        have HGo : Hid (lastM true last (f :: fs) = R) := HI.out.go
        have HB := Lib.hid (HW.out.2.1.trans (HI.out.bel.mono (by omega)))
        have HRe : Hid (∀ u, Below (w.heap.size + 1) wr u → ReB u w.heap.size (.pointer none) 0) := fun u hu => (hu.block _ (by omega)).trans ((HI.out.bel.block _ (by omega)).trans HW.out.1)
        clear hRd hBd hcl hlen htop HI
        cases fs with
        | nil =>
          cases hx : decide (true = true ∧ last ≤ 1) with
          | true =>
            rw [hx] at hen
            have HRn : Hid (R = none) := by show _ = _; rw [← HGo.out]; exact if_pos (of_decide_eq_true hx)
            clear hx
            go_wp2_with (go_at_call 37; refine hen.mono ?_; rintro e u1 ⟨hBu, he⟩; rw [if_pos rfl] at he; subst he)
            refine ⟨rfl, HB.out.trans (hBu.mono (by omega)), ?_⟩
            rw [HRR.out, HRn.out]
          | false =>
            rw [hx] at hen
            obtain ⟨x, hxx⟩ : ∃ x, joinN 5 (f.1 ++ [joinN 4 f.2]) = x := ⟨_, rfl⟩
            have HRn : Hid (R = some x) := by show _ = _; rw [← HGo.out, ← hxx]; exact if_neg (t := none) (of_decide_eq_false hx)
            have HWh : Hid (∀ u pv' ov' md', Rd u (w.heap.size + 1) [] true fold (last : Int) (([] : List Fr).length : Int) cl pv' ov' md' → BdX u (w.heap.size + 1) pv' ov' md' (flat [] ++ [joinN 5 (f.1 ++ [joinN 4 f.2])]) (spansF []) → Calls Tryz.prog 39 #[bldP (w.heap.size + 1)] u (WhO x u)) := fun u pv' ov' md' h1 h2 => by
              rw [hxx] at h2
              exact whole_c h1 h2
            have HFin : Hid (∀ u v z b, Below (w.heap.size + 1) wr u → (v = .pointer none ∨ ∃ pb, v = ptr pb) → u.cell? ⟨w.heap.size, 0, none⟩ = some (.pointer none) ∧ u.frozen? ⟨w.heap.size, 0, none⟩ = false ∧ (u.setCell ⟨w.heap.size, 0, none⟩ v).cell? ⟨w.heap.size, 1, none⟩ = some (.int .i64 0) ∧ (u.setCell ⟨w.heap.size, 0, none⟩ v).frozen? ⟨w.heap.size, 1, none⟩ = false ∧ ReB ((u.setCell ⟨w.heap.size, 0, none⟩ v).setCell ⟨w.heap.size, 1, none⟩ (.int .i64 z)) w.heap.size v z ∧ Below w.heap.size w ((u.setCell ⟨w.heap.size, 0, none⟩ v).setCell ⟨w.heap.size, 1, none⟩ (.int .i64 z)) ∧ (b = true → NKeep u ((u.setCell ⟨w.heap.size, 0, none⟩ v).setCell ⟨w.heap.size, 1, none⟩ (.int .i64 z)))) := fun u v z b hu _ => by
              have h0 := HRe.out u hu
              have h1 := h_set h0 0 v
              have h2 := h_set h1 1 (.int .i64 z)
              have hBu := HB.out.trans (hu.mono (Nat.le_succ _))
              exact ⟨h_cell h0 0 rfl, h_fz h0 0, h_cell h1 1 rfl, h_fz h1 1, by simpa using h2, (hBu.setCell (p := ⟨w.heap.size, 0, none⟩) (Nat.le_refl _) _).setCell (p := ⟨w.heap.size, 1, none⟩) (Nat.le_refl _) _, fun _ => NKeep.bar ((Bar.set _ _ _ _).trans (Bar.set _ _ _ _)) h0 (by decide)⟩
            clear hx hxx HGo
            have hgB : ∀ u1 u2, Below (w.heap.size + 1) wr u1 → Below u1.heap.size u1 u2 → w.heap.size + 1 ≤ u1.heap.size → Below (w.heap.size + 1) wr u2 := fun u1 u2 a b c => a.trans (b.mono c)
            have HGB := Lib.hid hgB
            clear hgB
            by_cases hbig : 10000 < x.size
            · go_wp2_with (first
                | (go_at_call 37; refine hen.mono ?_; rintro e u1 ⟨hBu, he⟩; rw [if_neg (by simp)] at he; obtain ⟨rfl, pv2, ov2, md2, hR2, hb2⟩ := he; have k4 := h_cell hR2 4 rfl; have hwh := HWh.out u1 pv2 ov2 md2 hR2 hb2; have HBu := Lib.hid (And.intro hBu (h_lt hR2)); clear hBu hR2 hb2)
                | (go_at_call 39; refine hwh.mono ?_; rintro e u2 ⟨hB2, he⟩; rw [if_pos hbig] at he; subst he; obtain ⟨j0, jz0, j1, jz1, jf, jb, _⟩ := HFin.out u2 (.pointer none) 0 false (HGB.out u1 u2 HBu.out.1 hB2 (Nat.le_of_lt HBu.out.2)) (.inl rfl); have HZ := Lib.hid (And.intro jf jb); clear jf jb hB2))
              refine bodyPost_ret (res_re2 rfl (b := w.heap.size) rfl HZ.out.1 rfl) rfl ?_
              refine ⟨HZ.out.2, ?_⟩
              rw [HRR.out, HRn.out]
              simp only
              rw [if_pos hbig]
              rfl
            · go_wp2_with (first
                | (go_at_call 37; refine hen.mono ?_; rintro e u1 ⟨hBu, he⟩; rw [if_neg (by simp)] at he; obtain ⟨rfl, pv2, ov2, md2, hR2, hb2⟩ := he; have k4 := h_cell hR2 4 rfl; have hwh := HWh.out u1 pv2 ov2 md2 hR2 hb2; have HBu := Lib.hid (And.intro hBu (h_lt hR2)); clear hBu hR2 hb2)
                | (go_at_call 39; refine hwh.mono ?_; rintro e u2 ⟨hB2, he⟩; rw [if_neg hbig] at he; obtain ⟨vx, rfl, hnx⟩ := he; obtain ⟨pb, rfl, _⟩ := hnx.ptr; obtain ⟨j0, jz0, j1, jz1, jf, jb, jn⟩ := HFin.out u2 (ptr pb) (szI x) true (HGB.out u1 u2 HBu.out.1 hB2 (Nat.le_of_lt HBu.out.2)) (.inr ⟨pb, rfl⟩); have HZ := Lib.hid (And.intro jf (And.intro jb (hnx.keep (jn rfl)))); clear jf jb jn hnx hB2))
              refine bodyPost_ret (res_re2 rfl (b := w.heap.size) rfl HZ.out.1 rfl) rfl ?_
              refine ⟨HZ.out.2.1, ?_⟩
              rw [HRR.out, HRn.out]
              simp only
              rw [if_neg hbig]
              exact ⟨ptr pb, rfl, HZ.out.2.2⟩
        | cons g fs =>
          have HRn : Hid (R = none) := by show _ = _; rw [← HGo.out]; rfl
          have hg := fun u => giveUp_c u
          have g4 : (0 : Int) < (((g :: fs).length : Nat) : Int) := by simp only [List.length_cons]; omega
          generalize (((g :: fs).length : Nat) : Int) = dp at hen g4
          cases hx : decide (true = true ∧ last ≤ 1) with
          | true =>
            rw [hx] at hen
            clear hx
            go_wp2_with (go_at_call 37; refine hen.mono ?_; rintro e u1 ⟨hBu, he⟩; rw [if_pos rfl] at he; subst he)
            refine ⟨rfl, HB.out.trans (hBu.mono (by omega)), ?_⟩
            rw [HRR.out, HRn.out]
          | false =>
            rw [hx] at hen
            clear hx
            go_wp2_with (first
              | (go_at_call 37; refine hen.mono ?_; rintro e u1 ⟨hBu, he⟩; rw [if_neg (by simp)] at he; obtain ⟨rfl, pv2, ov2, md2, hR2, hb2⟩ := he; have k4 := h_cell hR2 4 rfl; have HBu := Lib.hid hBu; clear hBu hR2 hb2)
              | (go_at_call 38; refine (hg _).mono ?_; rintro e u2 ⟨rfl, hw⟩; rw [hw]; clear hw u2))
            refine ⟨rfl, HB.out.trans (HBu.out.mono (by omega)), ?_⟩
            rw [HRR.out, HRn.out]
      | cons c r =>
        have e0 := emp_no c r
        have hst := step_c (ext := true) HI.out.am HI.out.rs
        cases hq : stepM true fold last (f :: fs) c r with
        | none =>
          rw [hq] at hst
          have HRn : Hid (R = none) := by show _ = _; rw [← HI.out.go]; exact run_no hq
          have HB := Lib.hid (HW.out.2.1.trans (HI.out.bel.mono (by omega)))
          clear hq hRd hBd hcl hlen htop HI
          go_wp2_with (refine hst.mono ?_; rintro e u1 ⟨hBu, rfl⟩)
          refine ⟨rfl, HB.out.trans (hBu.mono (by omega)), ?_⟩
          rw [HRR.out, HRn.out]
        | some q =>
          rw [hq] at hst
          have hne := stepM_ne q hq
          obtain ⟨l2, last2, fs2⟩ := q
          obtain ⟨f2, fs3, rfl⟩ : ∃ f2 fs3, fs2 = f2 :: fs3 := by
            cases fs2 with
            | nil => exact absurd rfl hne
            | cons a b => exact ⟨a, b, rfl⟩
          have hlt : l2.length ≤ r.length := stepM_len _ hq
          have HN : Hid (∀ u, Below (w.heap.size + 1) wr u → RS (w.heap.size + 1) true fold u l2 last2 (f2 :: fs3) → RdI (w.heap.size + 1) true fold W u R l2 last2 f2 fs3) := fun u h1 h2 => ⟨h2, HI.out.bel.trans h1, HI.out.am.keep h1, by rw [← HI.out.go]; exact (run_to hq).symm⟩
          have HL2 : Hid (∀ u, RS (w.heap.size + 1) true fold u l2 last2 (f2 :: fs3) → leftW u (w.heap.size + 1) = l2.length) := fun u hu => by
            obtain ⟨_, _, _, _, h1, _⟩ := hu
            exact h1.leftW
          clear hq hRd hBd hcl hlen htop HI hne
          go_wp2_with (refine hst.mono ?_; rintro e u1 ⟨hBu, rfl, hSu⟩; have HJ := Lib.hid (HN.out u1 hBu hSu); have HL3 := Lib.hid (HL2.out u1 hSu); clear hBu hSu)
          exact ⟨⟨l2, last2, f2, fs3, HJ⟩, by rw [HL3.out, HL.out]; simp only [List.length_cons]; omega⟩
  | false =>
    have hst0 := rs_start (w := w) s false fold hs hG hm
    have hcf : ∀ (z : Array Value) (u : World), (callFunc 34 z).run Tryz.prog u = .ok (.enter 34 z) u := fun _ _ => by kernel_rfl
    go_enter Tryz.func28, Tryz.ntmps28
    go_upto_region 5 with fail
    generalize (w.alloc (.cells #[.pointer none, .int .i64 0] 38)).alloc (.cells #[.string (bs s), .bool false, .bool fold, .int .i64 0, .int .i64 0, .bool false, .slice none 0 0, .slice none 0 0, .int .i64 0] 90) = W at hst0 ⊢
    obtain ⟨hRS, hRe, hBw, hAm⟩ := hst0
    have hbg := rbegin_c hRS (by simp only [List.length_nil]; omega)
    have HW := Lib.hid (And.intro hRe (And.intro hBw hAm))
    obtain ⟨R, hR⟩ : ∃ R, readS id false fold s = R := ⟨_, rfl⟩
    have HR : Hid (runM false fold s 0 [([], [])] = R) := by show _ = _; rw [run_read, hR]
    have HRR := Lib.hid hR
    clear hRS hRe hBw hAm hR
    go_wp2_with (go_at_call 36; refine hbg.mono ?_; rintro e w1 ⟨hB1, rfl, hS1⟩; have HI0 : Hid (RdI (w.heap.size + 1) false fold W w1 R s 0 ([], []) []) := ⟨hS1, hB1, HW.out.2.2.keep hB1, HR.out⟩; clear hB1 hS1)
    clear hbg HR
    go_loopw [] (fun wr => ∃ l last f fs, Hid (RdI (w.heap.size + 1) false fold W wr R l last f fs)) (fun wr => leftW wr (w.heap.size + 1))
    case atStart => exact ⟨s, 0, ([], []), [], HI0⟩
    case round =>
      obtain ⟨l, last, f, fs, HI⟩ := hrel
      clear HI0
      obtain ⟨cl, pv, ov, md, hRd, hBd, hcl, hlen, htop⟩ := HI.out.rs
      have c0 := h_cell hRd 0 rfl
      have HL := Lib.hid hRd.leftW
      cases l with
      | nil =>
        have e0 := emp_yes
        have hen := rend_of hRd hBd hlen
        have HGo : Hid (lastM false last (f :: fs) = R) := HI.out.go
        have HB := Lib.hid (HW.out.2.1.trans (HI.out.bel.mono (by omega)))
        have HRe : Hid (∀ u, Below (w.heap.size + 1) wr u → ReB u w.heap.size (.pointer none) 0) := fun u hu => (hu.block _ (by omega)).trans ((HI.out.bel.block _ (by omega)).trans HW.out.1)
        clear hRd hBd hcl hlen htop HI
        cases fs with
        | nil =>
          cases hx : decide (false = true ∧ last ≤ 1) with
          | true =>
            rw [hx] at hen
            have HRn : Hid (R = none) := by show _ = _; rw [← HGo.out]; exact if_pos (of_decide_eq_true hx)
            clear hx
            go_wp2_with (go_at_call 37; refine hen.mono ?_; rintro e u1 ⟨hBu, he⟩; rw [if_pos rfl] at he; subst he)
            refine ⟨rfl, HB.out.trans (hBu.mono (by omega)), ?_⟩
            rw [HRR.out, HRn.out]
          | false =>
            rw [hx] at hen
            obtain ⟨x, hxx⟩ : ∃ x, joinN 5 (f.1 ++ [joinN 4 f.2]) = x := ⟨_, rfl⟩
            have HRn : Hid (R = some x) := by show _ = _; rw [← HGo.out, ← hxx]; exact if_neg (t := none) (of_decide_eq_false hx)
            have HWh : Hid (∀ u pv' ov' md', Rd u (w.heap.size + 1) [] false fold (last : Int) (([] : List Fr).length : Int) cl pv' ov' md' → BdX u (w.heap.size + 1) pv' ov' md' (flat [] ++ [joinN 5 (f.1 ++ [joinN 4 f.2])]) (spansF []) → Calls Tryz.prog 39 #[bldP (w.heap.size + 1)] u (WhO x u)) := fun u pv' ov' md' h1 h2 => by
              rw [hxx] at h2
              exact whole_c h1 h2
            have HFin : Hid (∀ u v z b, Below (w.heap.size + 1) wr u → (v = .pointer none ∨ ∃ pb, v = ptr pb) → u.cell? ⟨w.heap.size, 0, none⟩ = some (.pointer none) ∧ u.frozen? ⟨w.heap.size, 0, none⟩ = false ∧ (u.setCell ⟨w.heap.size, 0, none⟩ v).cell? ⟨w.heap.size, 1, none⟩ = some (.int .i64 0) ∧ (u.setCell ⟨w.heap.size, 0, none⟩ v).frozen? ⟨w.heap.size, 1, none⟩ = false ∧ ReB ((u.setCell ⟨w.heap.size, 0, none⟩ v).setCell ⟨w.heap.size, 1, none⟩ (.int .i64 z)) w.heap.size v z ∧ Below w.heap.size w ((u.setCell ⟨w.heap.size, 0, none⟩ v).setCell ⟨w.heap.size, 1, none⟩ (.int .i64 z)) ∧ (b = true → NKeep u ((u.setCell ⟨w.heap.size, 0, none⟩ v).setCell ⟨w.heap.size, 1, none⟩ (.int .i64 z)))) := fun u v z b hu _ => by
              have h0 := HRe.out u hu
              have h1 := h_set h0 0 v
              have h2 := h_set h1 1 (.int .i64 z)
              have hBu := HB.out.trans (hu.mono (Nat.le_succ _))
              exact ⟨h_cell h0 0 rfl, h_fz h0 0, h_cell h1 1 rfl, h_fz h1 1, by simpa using h2, (hBu.setCell (p := ⟨w.heap.size, 0, none⟩) (Nat.le_refl _) _).setCell (p := ⟨w.heap.size, 1, none⟩) (Nat.le_refl _) _, fun _ => NKeep.bar ((Bar.set _ _ _ _).trans (Bar.set _ _ _ _)) h0 (by decide)⟩
            clear hx hxx HGo
            have hgB : ∀ u1 u2, Below (w.heap.size + 1) wr u1 → Below u1.heap.size u1 u2 → w.heap.size + 1 ≤ u1.heap.size → Below (w.heap.size + 1) wr u2 := fun u1 u2 a b c => a.trans (b.mono c)
            have HGB := Lib.hid hgB
            clear hgB
            by_cases hbig : 10000 < x.size
            · go_wp2_with (first
                | (go_at_call 37; refine hen.mono ?_; rintro e u1 ⟨hBu, he⟩; rw [if_neg (by simp)] at he; obtain ⟨rfl, pv2, ov2, md2, hR2, hb2⟩ := he; have k4 := h_cell hR2 4 rfl; have hwh := HWh.out u1 pv2 ov2 md2 hR2 hb2; have HBu := Lib.hid (And.intro hBu (h_lt hR2)); clear hBu hR2 hb2)
                | (go_at_call 39; refine hwh.mono ?_; rintro e u2 ⟨hB2, he⟩; rw [if_pos hbig] at he; subst he; obtain ⟨j0, jz0, j1, jz1, jf, jb, _⟩ := HFin.out u2 (.pointer none) 0 false (HGB.out u1 u2 HBu.out.1 hB2 (Nat.le_of_lt HBu.out.2)) (.inl rfl); have HZ := Lib.hid (And.intro jf jb); clear jf jb hB2))
              refine bodyPost_ret (res_re2 rfl (b := w.heap.size) rfl HZ.out.1 rfl) rfl ?_
              refine ⟨HZ.out.2, ?_⟩
              rw [HRR.out, HRn.out]
              simp only
              rw [if_pos hbig]
              rfl
            · go_wp2_with (first
                | (go_at_call 37; refine hen.mono ?_; rintro e u1 ⟨hBu, he⟩; rw [if_neg (by simp)] at he; obtain ⟨rfl, pv2, ov2, md2, hR2, hb2⟩ := he; have k4 := h_cell hR2 4 rfl; have hwh := HWh.out u1 pv2 ov2 md2 hR2 hb2; have HBu := Lib.hid (And.intro hBu (h_lt hR2)); clear hBu hR2 hb2)
                | (go_at_call 39; refine hwh.mono ?_; rintro e u2 ⟨hB2, he⟩; rw [if_neg hbig] at he; obtain ⟨vx, rfl, hnx⟩ := he; obtain ⟨pb, rfl, _⟩ := hnx.ptr; obtain ⟨j0, jz0, j1, jz1, jf, jb, jn⟩ := HFin.out u2 (ptr pb) (szI x) true (HGB.out u1 u2 HBu.out.1 hB2 (Nat.le_of_lt HBu.out.2)) (.inr ⟨pb, rfl⟩); have HZ := Lib.hid (And.intro jf (And.intro jb (hnx.keep (jn rfl)))); clear jf jb jn hnx hB2))
              refine bodyPost_ret (res_re2 rfl (b := w.heap.size) rfl HZ.out.1 rfl) rfl ?_
              refine ⟨HZ.out.2.1, ?_⟩
              rw [HRR.out, HRn.out]
              simp only
              rw [if_neg hbig]
              exact ⟨ptr pb, rfl, HZ.out.2.2⟩
        | cons g fs =>
          have HRn : Hid (R = none) := by show _ = _; rw [← HGo.out]; rfl
          have hg := fun u => giveUp_c u
          have g4 : (0 : Int) < (((g :: fs).length : Nat) : Int) := by simp only [List.length_cons]; omega
          generalize (((g :: fs).length : Nat) : Int) = dp at hen g4
          cases hx : decide (false = true ∧ last ≤ 1) with
          | true =>
            rw [hx] at hen
            clear hx
            go_wp2_with (go_at_call 37; refine hen.mono ?_; rintro e u1 ⟨hBu, he⟩; rw [if_pos rfl] at he; subst he)
            refine ⟨rfl, HB.out.trans (hBu.mono (by omega)), ?_⟩
            rw [HRR.out, HRn.out]
          | false =>
            rw [hx] at hen
            clear hx
            go_wp2_with (first
              | (go_at_call 37; refine hen.mono ?_; rintro e u1 ⟨hBu, he⟩; rw [if_neg (by simp)] at he; obtain ⟨rfl, pv2, ov2, md2, hR2, hb2⟩ := he; have k4 := h_cell hR2 4 rfl; have HBu := Lib.hid hBu; clear hBu hR2 hb2)
              | (go_at_call 38; refine (hg _).mono ?_; rintro e u2 ⟨rfl, hw⟩; rw [hw]; clear hw u2))
            refine ⟨rfl, HB.out.trans (HBu.out.mono (by omega)), ?_⟩
            rw [HRR.out, HRn.out]
      | cons c r =>
        have e0 := emp_no c r
        have hst := step_c (ext := false) HI.out.am HI.out.rs
        cases hq : stepM false fold last (f :: fs) c r with
        | none =>
          rw [hq] at hst
          have HRn : Hid (R = none) := by show _ = _; rw [← HI.out.go]; exact run_no hq
          have HB := Lib.hid (HW.out.2.1.trans (HI.out.bel.mono (by omega)))
          clear hq hRd hBd hcl hlen htop HI
          go_wp2_with (refine hst.mono ?_; rintro e u1 ⟨hBu, rfl⟩)
          refine ⟨rfl, HB.out.trans (hBu.mono (by omega)), ?_⟩
          rw [HRR.out, HRn.out]
        | some q =>
          rw [hq] at hst
          have hne := stepM_ne q hq
          obtain ⟨l2, last2, fs2⟩ := q
          obtain ⟨f2, fs3, rfl⟩ : ∃ f2 fs3, fs2 = f2 :: fs3 := by
            cases fs2 with
            | nil => exact absurd rfl hne
            | cons a b => exact ⟨a, b, rfl⟩
          have hlt : l2.length ≤ r.length := stepM_len _ hq
          have HN : Hid (∀ u, Below (w.heap.size + 1) wr u → RS (w.heap.size + 1) false fold u l2 last2 (f2 :: fs3) → RdI (w.heap.size + 1) false fold W u R l2 last2 f2 fs3) := fun u h1 h2 => ⟨h2, HI.out.bel.trans h1, HI.out.am.keep h1, by rw [← HI.out.go]; exact (run_to hq).symm⟩
          have HL2 : Hid (∀ u, RS (w.heap.size + 1) false fold u l2 last2 (f2 :: fs3) → leftW u (w.heap.size + 1) = l2.length) := fun u hu => by
            obtain ⟨_, _, _, _, h1, _⟩ := hu
            exact h1.leftW
          clear hq hRd hBd hcl hlen htop HI hne
          go_wp2_with (refine hst.mono ?_; rintro e u1 ⟨hBu, rfl, hSu⟩; have HJ := Lib.hid (HN.out u1 hBu hSu); have HL3 := Lib.hid (HL2.out u1 hSu); clear hBu hSu)
          exact ⟨⟨l2, last2, f2, fs3, HJ⟩, by rw [HL3.out, HL.out]; simp only [List.length_cons]; omega⟩
end
end Go.Proofs.YtlekfdkahlobiaaGreat.Re
