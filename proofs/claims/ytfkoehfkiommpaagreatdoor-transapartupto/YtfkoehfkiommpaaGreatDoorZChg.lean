/- tr: what becomes of bytes, reckoned. -/
import Derived.Test.YtfkoehfkiommpaaGreatDoorZFate1
import Derived.Test.YtfkoehfkiommpaaGreatDoorKMay
namespace Go.Proofs.YtfkoehfkiommpaaGreatDoor.Tr
open Go.Proofs.YtfkoehfkiommpaaGreatDoor.Op
open Go.RowKit

theorem results_fa {fn : Func} {p u : Tmp} (h : fn.results = #[.cell p 241, .tmp u]) {tmps : Array Value} {w : World} {b : Nat} {cs : Array Value} {v : Value} (hp : tmps.getD p undef = .pointer (some ⟨b, 0, none⟩)) (hg : w.heap[b]? = some (.cells cs 241)) (hs : cs.size = 768)
    (hv : tmps.getD u undef = v) : (results fn tmps).run Tryz.prog w = .ok (.tuple #[.agg cs, v]) w := by
  rw [results_cell_tmp h, hp, hv]
  simp [asAddr, Result.andThen, run_loadVar_row w b 241 241 cs (0, 0) _ hg Tryz.underlying241 rfl (by rw [hs]; exact infoFa)]
/-- Between two bytes. -/
structure Fs (w1 : World) (ab fb : Nat) (t : Tr) (v1 v2 : Value) (bc : Nat → UInt8) (g o : Nat → Bool) (W : World) : Prop where
  below : Below w1.heap.size w1 W
  asked : W.heap[ab]? = some (.cells #[.bool t.move, .bool t.del, .bool t.squeeze, v1, v2] 290)
  fa : FaAt W fb bc g o
section
variable {w w1 W : World} {ab fb : Nat} {t : Tr} {v1 v2 : Value} {bc : Nat → UInt8} {g o : Nat → Bool}
theorem Fs.set (h : Fs w1 ab fb t v1 v2 bc g o W) (hf : w1.heap.size ≤ fb) (hn : ab ≠ fb) (i : Nat) (v : Value) {bc2 : Nat → UInt8} {g2 o2 : Nat → Bool} (hfa : FaAt (W.setCell ⟨fb, i, none⟩ v) fb bc2 g2 o2) : Fs w1 ab fb t v1 v2 bc2 g2 o2 (W.setCell ⟨fb, i, none⟩ v) :=
  ⟨h.below.setCell (p := ⟨fb, i, none⟩) hf _, (Below.heap_setCell _ _ _ _ (by simpa using hn)).trans h.asked, hfa⟩
theorem by_cell {l : List UInt8} {v : Value} (h : ByAt w1 v l) (hb : Below w1.heap.size w1 W) {k : Nat} (hk : k < l.length) : ∃ b off cap, v = .slice (some ⟨b, off, none⟩) l.length cap ∧ l.length ≤ cap ∧ W.cell? ⟨b, off + k, none⟩ = some (.int .u8 (l[k].toNat : Int)) := by
  rcases h with ⟨_, h0⟩ | ⟨b, off, cap, h1, h2, h3, h4⟩
  · rw [h0] at hk; simp at hk
  · refine ⟨b, off, cap, h1, h2.1, ?_⟩
    rw [hb.cell (p := ⟨b, off + k, none⟩) h3, h4 k hk]
    simp [hk]
/-- What a byte becomes in the end. -/
def becF (t : Tr) : Nat → UInt8 := becK t.one t.two t.move t.one.length
def goneF (t : Tr) (c : Nat) : Bool := inB t.one c && t.del
def onceF (t : Tr) (c : Nat) : Bool := t.squeeze && inB t.two (becF t c).toNat
set_option maxRecDepth 100000 in
set_option maxHeartbeats 16000000 in
theorem fates_c (lv ov : Value) (t : Tr) (w : World) (h1 : ∃ a n c, lv = .slice a n c) (h2 : ∃ a n c, ov = .slice a n c) (hl1 : t.one.length ≤ 1099511627776) (hl2 : t.two.length ≤ 1099511627776) (hmv : t.move = true → t.one ≠ [] → t.two ≠ [])
    (hask : ∀ W, Below w.heap.size w W → Calls Tryz.prog 181 #[lv, ov] W (AskOut W t)) :
    Calls Tryz.prog 144 #[lv, ov] w fun e w' => e = .returned (.tuple #[.agg (faA (becF t) (goneF t) (onceF t)), .bool true]) ∧ Below w.heap.size w w' := by
  obtain ⟨la, ln, lc, rfl⟩ := h1
  obtain ⟨oa, on, oc, rfl⟩ := h2
  have hB0 : Below w.heap.size w (w.alloc (.cells Tryz.zeroCells241 241)) := (Below.refl _ w).alloc (Nat.le_refl _) _
  have hak := hask _ hB0
  have HF0 := Lib.hid (And.intro hB0 (fa_new w))
  clear hask hB0
  go_enter Tryz.func144, Tryz.ntmps144
  go_wp2_with (go_at_call 181; refine hak.mono ?_; rintro e w1 ⟨v1, v2, rfl, hy1, hy2, hB1⟩; obtain ⟨x1, c1, rfl⟩ := hy1.shape; obtain ⟨x2, c2, rfl⟩ := hy2.shape; have HB1 : Hid (Below w.heap.size w w1 ∧ FaAt w1 w.heap.size (fun _ => 0) (fun _ => false) (fun _ => false)) := ⟨HF0.out.1.trans (hB1.mono HF0.out.1.size), (hB1.block w.heap.size (h_lt HF0.out.2)).trans HF0.out.2⟩; have HY := Lib.hid (And.intro hy1 hy2); clear hak hy1 hy2 hB1)
  have hI : Fs w1 w1.heap.size (w1.heap.size + 1) t (.slice x1 t.one.length c1) (.slice x2 t.two.length c2) (fun i => if i < 0 then UInt8.ofNat i else 0) (fun _ => false) (fun _ => false) ((w1.alloc (.cells #[.bool t.move, .bool t.del, .bool t.squeeze, .slice x1 t.one.length c1, .slice x2 t.two.length c2] 290)).alloc (.cells Tryz.zeroCells241 241)) := by
    refine ⟨((Below.refl _ w1).alloc (Nat.le_refl _) _).alloc (by simp) _, (heap_alloc_old _ _ (by simp)).trans (heap_alloc_last w1 _), ?_⟩
    have := fa_new (w1.alloc (.cells #[.bool t.move, .bool t.del, .bool t.squeeze, .slice x1 t.one.length c1, .slice x2 t.two.length c2] 290))
    rw [show (w1.alloc (.cells #[.bool t.move, .bool t.del, .bool t.squeeze, .slice x1 t.one.length c1, .slice x2 t.two.length c2] 290)).heap.size = w1.heap.size + 1 by simp] at this
    exact fa_eq this (by simp) (by simp) (by simp)
  have HI := Lib.hid hI
  clear hI HF0
  generalize (w1.alloc (.cells #[.bool t.move, .bool t.del, .bool t.squeeze, .slice x1 t.one.length c1, .slice x2 t.two.length c2] 290)).alloc (.cells Tryz.zeroCells241 241) = W1 at HI ⊢
  go_loopw [23] (fun i wr => ∃ k : Nat, k ≤ 256 ∧ i = .int .i64 k ∧ Hid (Fs w1 w1.heap.size (w1.heap.size + 1) t (.slice x1 t.one.length c1) (.slice x2 t.two.length c2) (fun i => if i < k then UInt8.ofNat i else 0) (fun _ => false) (fun _ => false) wr)) (fun i _ => 256 - (intOf i).toNat)
  case atStart => exact ⟨0, by omega, rfl, HI⟩
  case round =>
    obtain ⟨k, hk, rfl, HS⟩ := hrel
    clear HI
    by_cases hlt : k < 256
    · have n1 : (k : Int) < 256 := by omega
      have hw8 : IntKind.u8.wrap (k : Int) = (k : Int) := u8_wrap _ (by omega)
      have q0 := fa0 HS.out.fa hlt
      have z0 := h_fz HS.out.fa (k * 3)
      have hof : ((UInt8.ofNat k).toNat : Int) = (k : Int) := by simp; omega
      have HN : Hid (Fs w1 w1.heap.size (w1.heap.size + 1) t (.slice x1 t.one.length c1) (.slice x2 t.two.length c2) (fun i => if i < k + 1 then UInt8.ofNat i else 0) (fun _ => false) (fun _ => false) (wr.setCell ⟨w1.heap.size + 1, k * 3, none⟩ (.int .u8 (k : Int)))) := by
        have := fa_set0 (c := k) HS.out.fa (UInt8.ofNat k)
        rw [hof] at this
        refine HS.out.set (by omega) (by omega) _ _ (fa_eq this (fun i _ => ?_) (by simp) (by simp))
        by_cases e : i = k
        · rw [if_pos e, if_pos (by omega), e]
        · rw [if_neg e]
          by_cases e2 : i < k
          · rw [if_pos e2, if_pos (by omega)]
          · rw [if_neg e2, if_neg (by omega)]
      clear HS hof
      go_wp2_with fail
      exact ⟨⟨k + 1, by omega, by go_num, HN⟩, by simp [intOf]; omega⟩
    · obtain rfl : k = 256 := by omega
      have HS2 : Hid (Fs w1 w1.heap.size (w1.heap.size + 1) t (.slice x1 t.one.length c1) (.slice x2 t.two.length c2) (becK t.one t.two t.move 0) (fun c => inB (t.one.take 0) c && t.del) (fun _ => false) wr) :=
        ⟨HS.out.below, HS.out.asked, fa_eq HS.out.fa (fun i hi => by rw [if_pos hi]; rfl) (fun i _ => by simp [inB]) (fun _ _ => rfl)⟩
      clear HS
      have k3 := h_cell HS2.out.asked 3 rfl
      go_wp2_with fail
      go_loopw [35] (fun i wr => ∃ k : Nat, k ≤ t.one.length ∧ i = .int .i64 k ∧ Hid (Fs w1 w1.heap.size (w1.heap.size + 1) t (.slice x1 t.one.length c1) (.slice x2 t.two.length c2) (becK t.one t.two t.move k) (fun c => inB (t.one.take k) c && t.del) (fun _ => false) wr)) (fun i _ => t.one.length - (intOf i).toNat)
      case atStart => exact ⟨0, by omega, rfl, HS2⟩
      case round =>
        obtain ⟨k, hk, rfl, HS⟩ := hrel
        clear HS2 k3
        by_cases hlt : k < t.one.length
        · have n1 : (k : Int) < (t.one.length : Int) := by omega
          obtain ⟨b1, off1, cap1, hv1, hc1, y1⟩ := by_cell HY.out.1 HS.out.below hlt
          have hx1 : x1 = some ⟨b1, off1, none⟩ ∧ c1 = cap1 := by simpa using hv1
          obtain ⟨rfl, rfl⟩ := hx1
          have hc8 := t.one[k].toNat_lt
          have hgk : t.one[k]?.getD 0 = t.one[k] := by simp [hlt]
          have hstep : ∀ c, c < 256 → (if c = t.one[k].toNat then t.del else (inB (t.one.take k) c && t.del)) = (inB (t.one.take (k + 1)) c && t.del) := fun c hc => by
            rw [← inB_snoc t.one k hlt c hc]
            by_cases e : c = t.one[k].toNat
            · rw [if_pos e, if_pos e, Bool.true_and]
            · rw [if_neg e, if_neg e]
          have a0 := h_cell HS.out.asked 0 rfl
          have a1 := h_cell HS.out.asked 1 rfl
          have a4 := h_cell HS.out.asked 4 rfl
          cases hm : t.move with
          | true =>
            have h2 := hmv hm (by intro e; rw [e] at hlt; simp at hlt)
            have h2l := List.length_pos_iff.2 h2
            obtain ⟨q, hq⟩ : ∃ q : Nat, q = min k (t.two.length - 1) := ⟨_, rfl⟩
            have hq2 : q < t.two.length := by omega
            obtain ⟨b2, off2, cap2, hv2, hc2, y2⟩ := by_cell HY.out.2 HS.out.below hq2
            have hx2 : x2 = some ⟨b2, off2, none⟩ ∧ c2 = cap2 := by simpa using hv2
            obtain ⟨rfl, rfl⟩ := hx2
            have hqi : min (k : Int) ((t.two.length : Int) - 1) = (q : Int) := by omega
            have q3 : (q : Int) < (t.two.length : Int) := by omega
            have hS1 : Fs w1 w1.heap.size (w1.heap.size + 1) t (.slice (some ⟨b1, off1, none⟩) t.one.length c1) (.slice (some ⟨b2, off2, none⟩) t.two.length c2) (fun c => if c = t.one[k].toNat then t.two[q] else becK t.one t.two t.move k c) (fun c => inB (t.one.take k) c && t.del) (fun _ => false) (wr.setCell ⟨w1.heap.size + 1, t.one[k].toNat * 3, none⟩ (.int .u8 (t.two[q].toNat : Int))) := HS.out.set (by omega) (by omega) _ _ (fa_set0 HS.out.fa _)
            have HN : Hid (Fs w1 w1.heap.size (w1.heap.size + 1) t (.slice (some ⟨b1, off1, none⟩) t.one.length c1) (.slice (some ⟨b2, off2, none⟩) t.two.length c2) (becK t.one t.two t.move (k + 1)) (fun c => inB (t.one.take (k + 1)) c && t.del) (fun _ => false) ((wr.setCell ⟨w1.heap.size + 1, t.one[k].toNat * 3, none⟩ (.int .u8 (t.two[q].toNat : Int))).setCell ⟨w1.heap.size + 1, t.one[k].toNat * 3 + 1, none⟩ (.bool t.del))) := by
              refine hS1.set (by omega) (by omega) _ _ (fa_eq (fa_set1 hS1.fa t.del) (fun c _ => ?_) hstep (fun _ _ => rfl))
              rw [becK, hm, hgk, ← hq]
              simp [hq2]
            have f0 := fa0 HS.out.fa hc8
            have z0 := h_fz HS.out.fa (t.one[k].toNat * 3)
            have f1 := fa1 hS1.fa hc8
            have z1 := h_fz hS1.fa (t.one[k].toNat * 3 + 1)
            have e1 := h_cell hS1.asked 1 rfl
            simp only [hm] at a0
            rw [hm] at HN
            generalize t.one[k].toNat = cn at *
            generalize t.two[q].toNat = yn at *
            clear HS hS1 hstep hgk hv1 hv2 hq h2
            go_wp2_with fail
            exact ⟨⟨k + 1, by omega, by go_num, HN⟩, by simp [intOf]; omega⟩
          | false =>
            have HN : Hid (Fs w1 w1.heap.size (w1.heap.size + 1) t (.slice (some ⟨b1, off1, none⟩) t.one.length c1) (.slice x2 t.two.length c2) (becK t.one t.two t.move (k + 1)) (fun c => inB (t.one.take (k + 1)) c && t.del) (fun _ => false) (wr.setCell ⟨w1.heap.size + 1, t.one[k].toNat * 3 + 1, none⟩ (.bool t.del))) := by
              refine HS.out.set (by omega) (by omega) _ _ (fa_eq (fa_set1 HS.out.fa t.del) (fun c _ => ?_) hstep (fun _ _ => rfl))
              rw [hm, becK_still, becK_still]
            have f1 := fa1 HS.out.fa hc8
            have z1 := h_fz HS.out.fa (t.one[k].toNat * 3 + 1)
            simp only [hm] at a0
            rw [hm] at HN
            generalize t.one[k].toNat = cn at *
            clear HS hstep hgk hv1
            go_wp2_with fail
            exact ⟨⟨k + 1, by omega, by go_num, HN⟩, by simp [intOf]; omega⟩
        · obtain rfl : k = t.one.length := by omega
          rw [List.take_length] at HS
          have a4 := h_cell HS.out.asked 4 rfl
          have n1 : ¬ ((t.one.length : Int) < (t.one.length : Int)) := by omega
          have hmb := memb_c (.slice x2 t.two.length c2) t.two wr (HY.out.2.below HS.out.below) hl2
          have hsz := blA_size (inB t.two)
          go_wp2_with (go_at_call 182; refine hmb.mono ?_; rintro e w5 ⟨rfl, hB5⟩; have hst := run_storeCells_new (P := Tryz.prog) w5 293 Tryz.zeroCells293 (blA (inB t.two)) (by rw [blA_size]; exact infoBl) (by rw [blA_zero, blA_size, blA_size]) (blA_one _); have HB5 := Lib.hid hB5; clear hB5 hmb)
          have HI3 : Hid (Fs w1 w1.heap.size (w1.heap.size + 1) t (.slice x1 t.one.length c1) (.slice x2 t.two.length c2) (becF t) (goneF t) (fun c => if c < 0 then onceF t c else false) (w5.alloc (.cells (blA (inB t.two)) 293)) ∧ BlAt (w5.alloc (.cells (blA (inB t.two)) 293)) w5.heap.size (inB t.two)) := by
            have hBB : Below wr.heap.size wr (w5.alloc (.cells (blA (inB t.two)) 293)) := HB5.out.alloc HB5.out.size _
            refine ⟨⟨HS.out.below.trans (hBB.mono HS.out.below.size), (hBB.block _ (h_lt HS.out.asked)).trans HS.out.asked, fa_eq ((hBB.block _ (h_lt HS.out.fa)).trans HS.out.fa) (fun _ _ => rfl) (fun _ _ => rfl) (by simp)⟩, heap_alloc_last w5 _⟩
          have hfb : w1.heap.size + 1 < w5.heap.size := Nat.lt_of_lt_of_le (h_lt HS.out.fa) HB5.out.size
          clear HS a4 hst
          generalize (w5.alloc (.cells (blA (inB t.two)) 293)) = V5 at HI3 ⊢
          go_loopw [64] (fun i wr => ∃ k : Nat, k ≤ 256 ∧ i = .int .i64 k ∧ Hid (Fs w1 w1.heap.size (w1.heap.size + 1) t (.slice x1 t.one.length c1) (.slice x2 t.two.length c2) (becF t) (goneF t) (fun c => if c < k then onceF t c else false) wr ∧ BlAt wr w5.heap.size (inB t.two))) (fun i _ => 256 - (intOf i).toNat)
          case atStart => exact ⟨0, by omega, rfl, HI3⟩
          case round =>
            obtain ⟨k, hk, rfl, HS⟩ := hrel
            clear HI3
            by_cases hlt : k < 256
            · have n1 : (k : Int) < 256 := by omega
              have HN : Hid (Fs w1 w1.heap.size (w1.heap.size + 1) t (.slice x1 t.one.length c1) (.slice x2 t.two.length c2) (becF t) (goneF t) (fun c => if c < k + 1 then onceF t c else false) (wr.setCell ⟨w1.heap.size + 1, k * 3 + 2, none⟩ (.bool (onceF t k))) ∧ BlAt (wr.setCell ⟨w1.heap.size + 1, k * 3 + 2, none⟩ (.bool (onceF t k))) w5.heap.size (inB t.two)) := by
                refine ⟨HS.out.1.set (by omega) (by omega) _ _ (fa_eq (fa_set2 (c := k) HS.out.1.fa (onceF t k)) (fun _ _ => rfl) (fun _ _ => rfl) (fun c _ => ?_)), bl_other HS.out.2 (by omega) _ _⟩
                by_cases e : c = k
                · rw [if_pos e, if_pos (by omega), e]
                · rw [if_neg e]
                  by_cases e2 : c < k
                  · rw [if_pos e2, if_pos (by omega)]
                  · rw [if_neg e2, if_neg (by omega)]
              have a2 := h_cell HS.out.1.asked 2 rfl
              have f0 := fa0 HS.out.1.fa hlt
              have f2 := fa2 HS.out.1.fa hlt
              have z2 := h_fz HS.out.1.fa (k * 3 + 2)
              have hb8 := (becF t k).toNat_lt
              have m1 : wr.cell? ⟨w5.heap.size, (becF t k).toNat, none⟩ = some (.bool (inB t.two (becF t k).toNat)) := h_cell HS.out.2 _ (blA_at _ _ hb8)
              have ho : onceF t k = (t.squeeze && inB t.two (becF t k).toNat) := rfl
              rw [ho] at HN
              clear ho
              generalize (becF t k).toNat = bn at *
              cases hq : t.squeeze with
              | true =>
                simp only [hq] at a2
                rw [hq, Bool.true_and] at HN
                clear HS
                go_wp2_with fail
                exact ⟨⟨k + 1, by omega, by go_num, HN⟩, by simp [intOf]; omega⟩
              | false =>
                simp only [hq] at a2
                rw [hq, Bool.false_and] at HN
                clear HS
                go_wp2_with fail
                exact ⟨⟨k + 1, by omega, by go_num, HN⟩, by simp [intOf]; omega⟩
            · obtain rfl : k = 256 := by omega
              have hFA : FaAt wr (w1.heap.size + 1) (becF t) (goneF t) (onceF t) := fa_eq HS.out.1.fa (fun _ _ => rfl) (fun _ _ => rfl) (fun c hc => by rw [if_pos hc])
              have hRS : FaAt wr w.heap.size (fun _ => 0) (fun _ => false) (fun _ => false) := (HS.out.1.below.block _ (h_lt HB1.out.2)).trans HB1.out.2
              have HBW : Hid (Below w.heap.size w wr) := HB1.out.1.trans (HS.out.1.below.mono HB1.out.1.size)
              go_wp2_with fail
              refine wp_load_arr 241 (.tmp 8) rfl (w1.heap.size + 1) (faA (becF t) (goneF t) (onceF t)) rfl 241 hFA Tryz.underlying241 rfl (by rw [faA_size]; exact infoFa) ?_
              have hsc := store_arr (P := Tryz.prog) (cs := faA (becF t) (goneF t) (onceF t)) hRS (by rw [faA_size, faA_size]) (faA_one _ _ _)
              have hsz := faA_size (becF t) (goneF t) (onceF t)
              go_wp2_with fail
              refine bodyPost_ret (results_fa rfl rfl (setRow_heap _ _ _ _ _ _ hRS) (faA_size _ _ _) rfl) rfl ?_
              exact ⟨rfl, below_setRow HBW.out (Nat.le_refl _) _⟩
end
end Go.Proofs.YtfkoehfkiommpaaGreatDoor.Tr

namespace Go.Proofs.YtfkoehfkiommpaaGreatDoor.Tr
open Go.Proofs.YtfkoehfkiommpaaGreatDoor.Op
open Go.RowKit

/-- What is told of a byte, and the last one that was told. -/
def emit (t : Tr) (q : Option UInt8) (b : UInt8) : List UInt8 × Option UInt8 :=
  if goneF t b.toNat = true then ([], q) else if onceF t b.toNat = true ∧ q = some (becF t b.toNat) then ([], q) else ([becF t b.toNat], some (becF t b.toNat))
def emits (t : Tr) : Option UInt8 → List UInt8 → List UInt8 × Option UInt8
  | q, [] => ([], q)
  | q, b :: r => ((emit t q b).1 ++ (emits t (emit t q b).2 r).1, (emits t (emit t q b).2 r).2)
theorem emits_app (t : Tr) : ∀ (q : Option UInt8) (a b : List UInt8), emits t q (a ++ b) = ((emits t q a).1 ++ (emits t (emits t q a).2 b).1, (emits t (emits t q a).2 b).2)
  | q, [], b => by simp [emits]
  | q, x :: r, b => by
    rw [List.cons_append, emits, emits_app t _ r b, emits]
    simp [List.append_assoc]
theorem emits_snoc (t : Tr) (q : Option UInt8) (a : List UInt8) (b : UInt8) : emits t q (a ++ [b]) = ((emits t q a).1 ++ (emit t (emits t q a).2 b).1, (emit t (emits t q a).2 b).2) := by
  rw [emits_app]
  simp [emits]
theorem emit_len (t : Tr) (q : Option UInt8) (b : UInt8) : (emit t q b).1.length ≤ 1 := by
  unfold emit
  split
  · simp
  · split <;> simp
theorem emits_len (t : Tr) : ∀ (q : Option UInt8) (l : List UInt8), (emits t q l).1.length ≤ l.length
  | q, [] => by simp [emits]
  | q, b :: r => by
    have h1 := emit_len t q b
    have h2 := emits_len t (emit t q b).2 r
    simp [emits]
    omega
theorem inB_toNat (l : List UInt8) (b : UInt8) : inB l b.toNat = l.contains b := by simp [inB]
/-- Fates, as the document tells them. -/
theorem fate_each (t : Tr) (hmv : t.move = true → t.one ≠ [] → t.two ≠ []) (b : UInt8) : t.each b = if goneF t b.toNat = true then [] else [becF t b.toNat] := by
  have hb := b.toNat_lt
  unfold Tr.each goneF becF
  rw [inB_toNat]
  by_cases h1 : t.one.contains b = true
  · rw [if_pos h1, h1, Bool.true_and]
    by_cases hd : t.del = true
    · rw [if_pos hd, if_pos hd]
    · rw [if_neg hd, if_neg hd]
      cases hm : t.move with
      | true =>
        rw [if_pos rfl, becK_take t.one t.two (hmv hm (by intro e; rw [e] at h1; simp at h1)) _ (Nat.le_refl _) _ hb, List.take_length]
        simp
      | false =>
        rw [if_neg (by simp), becK_still]
        simp
  · rw [if_neg h1]
    have h1' : t.one.contains b = false := by simpa using h1
    rw [h1', Bool.false_and, if_neg (by simp)]
    cases hm : t.move with
    | true =>
      by_cases ho : t.one = []
      · rw [ho]
        simp [becK]
      · rw [becK_take t.one t.two (hmv hm ho) _ (Nat.le_refl _) _ hb, List.take_length]
        have : lastAt t.one b = none := lastAt_none (by simpa using h1)
        simp [becomesS, this]
    | false =>
      rw [becK_still]
      simp
theorem emits_all (t : Tr) (hmv : t.move = true → t.one ≠ [] → t.two ≠ []) (l : List UInt8) : t.all l = (emits t none l).1 := by
  unfold Tr.all
  cases hs : t.squeeze with
  | true =>
    rw [if_pos rfl]
    have key : ∀ (l : List UInt8) (q : Option UInt8), squeezeS t.two.contains q (l.flatMap t.each) = (emits t q l).1 := by
      intro l
      induction l with
      | nil => intro q; rfl
      | cons b r ih =>
        intro q
        rw [List.flatMap_cons, fate_each t hmv b, emits, emit]
        by_cases hg : goneF t b.toNat = true
        · simp only [if_pos hg, List.nil_append]
          exact ih q
        · simp only [if_neg hg]
          rw [List.cons_append, List.nil_append, squeezeS]
          have ho : onceF t b.toNat = t.two.contains (becF t b.toNat) := by rw [onceF, hs, inB_toNat, Bool.true_and]
          rw [ho]
          split
          · simp only [List.nil_append]
            exact ih q
          · simp only [List.cons_append, List.nil_append]
            rw [ih]
    exact key l none
  | false =>
    rw [if_neg (by simp)]
    have key : ∀ (l : List UInt8) (q : Option UInt8), l.flatMap t.each = (emits t q l).1 := by
      intro l
      induction l with
      | nil => intro q; rfl
      | cons b r ih =>
        intro q
        have ho : onceF t b.toNat = false := by rw [onceF, hs, Bool.false_and]
        rw [List.flatMap_cons, fate_each t hmv b, emits, emit, ho]
        by_cases hg : goneF t b.toNat = true
        · simp only [if_pos hg, List.nil_append]
          exact ih q
        · simp only [if_neg hg, Bool.false_eq_true, false_and, if_false, List.cons_append, List.nil_append]
          rw [ih]
    exact key l none
def lastI : Option UInt8 → Int
  | none => -1
  | some x => (x.toNat : Int)
theorem lastI_eq (q : Option UInt8) (x : UInt8) : ((x.toNat : Int) = lastI q) ↔ q = some x := by
  cases q with
  | none => simp [lastI]
  | some y =>
    simp only [lastI, Option.some.injEq]
    constructor
    · intro h
      exact (UInt8.toNat_inj.1 (by omega)).symm
    · intro h
      rw [h]
end Go.Proofs.YtfkoehfkiommpaaGreatDoor.Tr

namespace Go.Proofs.YtfkoehfkiommpaaGreatDoor.Tr
open Go.Proofs.YtfkoehfkiommpaaGreatDoor.Op
open Go.RowKit

/-- What a changer stands on. -/
structure ChA (t : Tr) (fb lb : Nat) (q : Option UInt8) (W : World) : Prop where
  fa : FaAt W fb (becF t) (goneF t) (onceF t)
  last : W.heap[lb]? = some (.cells #[.int .i64 (lastI q)] 3)
theorem ChA.turn {t : Tr} {fb lb : Nat} {q : Option UInt8} {W W' : World} {S : List Nat} (h : ChA t fb lb q W) (hT : Turn S W W') (h1 : fb ∉ S) (h2 : lb ∉ S) : ChA t fb lb q W' :=
  ⟨(hT.block fb (h_lt h.fa) h1).trans h.fa, (hT.block lb (h_lt h.last) h2).trans h.last⟩
theorem turn_grown {lb : Nat} {w w1 w2 : World} {row : Option Nat} (h : Turn [lb] w w1) (hg : w1.grownBy w2 row) (hr : ∀ j, row = some j → w.heap.size ≤ j) : Turn [lb] w w2 :=
  ⟨hg.os.trans h.os, hg.tape.trans h.tape, hg.output.trans h.output, Nat.le_trans h.size hg.size, fun k hk hn => (hg.block k (Nat.lt_of_lt_of_le hk h.size) (fun e => by have := hr k e.symm; omega)).trans (h.block k hk hn)⟩
theorem cell_one_at (w : World) (v : Value) (T n : Nat) (hn : w.heap.size = n) : ∀ j u, [v][j]? = some u → (w.alloc (.cells #[v] T)).cell? ((⟨n, 0, none⟩ : Addr).add j) = some u := hn ▸ cell_one_new w v T
/-- Between two bytes of a chunk. -/
structure Cg (t : Tr) (fb lb : Nat) (q0 : Option UInt8) (W0 : World) (bs : List UInt8) (k : Nat) (v : Value) (wr : World) : Prop where
  ca : ChA t fb lb (emits t q0 (bs.take k)).2 wr
  row : Row wr W0.heap.size v (emits t q0 (bs.take k)).1
  turn : Turn [lb] W0 wr
section
variable {t : Tr} {fb lb : Nat} {q0 : Option UInt8} {W0 : World} {bs : List UInt8}
set_option maxRecDepth 100000 in
set_option maxHeartbeats 8000000 in
theorem chg_c (cv : Value) (hA : ChA t fb lb q0 W0) (hv : ByAt W0 cv bs) (hvl : ∀ b off n c, cv = .slice (some ⟨b, off, none⟩) n c → b ≠ lb) (hl : bs.length ≤ 1048576) :
    Calls Tryz.prog 183 #[cv, ptr fb, ptr lb] W0 fun e W' => ∃ v, e = .returned v ∧ Row W' W0.heap.size v (emits t q0 bs).1 ∧ ChA t fb lb (emits t q0 bs).2 W' ∧ Turn [lb] W0 W' := by
  obtain ⟨i0, hi, hz0, hz1, hz2⟩ := info_parts2 info_u8
  obtain ⟨va, vc, rfl⟩ := hv.shape
  have HI : Hid (Cg t fb lb q0 W0 bs 0 (.slice none 0 0) W0) := ⟨by simpa [emits] using hA, (show Row W0 W0.heap.size (.slice none 0 0) (emits t q0 (bs.take 0)).1 from World.ownsRow_nil _ _ _ _), Turn.refl _ _⟩
  have HV := Lib.hid (And.intro hv hvl)
  have hfl := h_lt hA.fa
  have hll := h_lt hA.last
  have hfl2 : fb ≠ lb := by
    intro e
    have h1 := hA.fa
    have h2 : some (Obj.cells #[.int .i64 (lastI q0)] 3) = some (Obj.cells (faA (becF t) (goneF t) (onceF t)) 241) := hA.last.symm.trans (e ▸ h1)
    simp only [Option.some.injEq, Obj.cells.injEq] at h2
    exact absurd h2.2.1 (by decide)
  clear hv hA hvl
  go_enter Tryz.func183, Tryz.ntmps183
  go_wp2_with fail
  go_loopw [5, 11] (fun l i wr => ∃ k : Nat, k ≤ bs.length ∧ i = .int .i64 k ∧ Hid (Cg t fb lb q0 W0 bs k l wr)) (fun _ i _ => bs.length - (intOf i).toNat)
  case atStart => exact ⟨0, by omega, rfl, HI⟩
  case round =>
    obtain ⟨k, hk, rfl, HC⟩ := hrel
    clear HI
    by_cases hlt : k < bs.length
    · have n1 : (k : Int) < (bs.length : Int) := by omega
      have hcell : ∃ vb off, va = some ⟨vb, off, none⟩ ∧ wr.cell? ⟨vb, off + k, none⟩ = some (.int .u8 (bs[k].toNat : Int)) ∧ bs.length ≤ vc := by
        rcases HV.out.1 with ⟨_, h0⟩ | ⟨vb, off, cap, hvs, hcap, hvb, hvc⟩
        · rw [h0] at hlt; simp at hlt
        · have hva : va = some ⟨vb, off, none⟩ ∧ vc = cap := by simpa using hvs
          refine ⟨vb, off, hva.1, ?_, by omega⟩
          rw [HC.out.turn.cell (hvc k hlt) (by simpa using HV.out.2 vb off _ _ hvs)]
          simp [hlt]
      obtain ⟨vb, off, rfl, y1, hvc⟩ := hcell
      have hsn := emits_snoc t q0 (bs.take k) bs[k]
      rw [← List.take_succ_eq_append_getElem hlt] at hsn
      have hlen : (emits t q0 (bs.take k)).1.length ≤ 1048576 := Nat.le_trans (emits_len _ _ _) (by rw [List.length_take]; omega)
      have hc8 := bs[k].toNat_lt
      have f0 := fa0 HC.out.ca.fa hc8
      have f1 := fa1 HC.out.ca.fa hc8
      have f2 := fa2 HC.out.ca.fa hc8
      have l0 := h_cell HC.out.ca.last 0 rfl
      have hem : emit t (emits t q0 (bs.take k)).2 bs[k] = if goneF t bs[k].toNat = true then ([], (emits t q0 (bs.take k)).2) else if onceF t bs[k].toNat = true ∧ (emits t q0 (bs.take k)).2 = some (becF t bs[k].toNat) then ([], (emits t q0 (bs.take k)).2) else ([becF t bs[k].toNat], some (becF t bs[k].toNat)) := rfl
      obtain ⟨bk, hbk⟩ : ∃ bk, becF t bs[k].toNat = bk := ⟨_, rfl⟩
      rw [hbk] at f0 hem
      have hw64 : wrap64 (bk.toNat : Int) = (bk.toNat : Int) := IntWalk.wrap64_in _ (by have := bk.toNat_lt; omega)
      have hwi : IntKind.i64.wrap (bk.toNat : Int) = (bk.toNat : Int) := IntWalk.i64_in _ (by have := bk.toNat_lt; omega)
      have hrl := row_lt HC.out.row
      have hrg : ∀ j, u5.ownBlock = some j → W0.heap.size ≤ j := fun j ej => own_ge2 HC.out.row j ej
      have hws := HC.out.turn.size
      cases hg : goneF t bs[k].toNat with
      | true =>
        rw [hg] at f1
        rw [hem, if_pos hg] at hsn
        have HN : Hid (∀ W, Below wr.heap.size wr W → Cg t fb lb q0 W0 bs (k + 1) u5 W) := fun W hB => ⟨by rw [hsn]; exact HC.out.ca.turn (Turn.below (S := []) hB) (by simp) (by simp), by rw [hsn, List.append_nil]; exact row_turn HC.out.row hB, HC.out.turn.trans (Turn.below hB)⟩
        generalize onceF t bs[k].toNat = ok at *
        generalize bs[k].toNat = cn at *
        generalize lastI (emits t q0 (bs.take k)).2 = la at *
        clear hsn hem HC hbk hg
        go_wp2_with fail
        exact ⟨⟨k + 1, by omega, by go_num, HN.out _ ((Below.refl _ wr).alloc (Nat.le_refl _) _)⟩, by simp [intOf]; omega⟩
      | false =>
        rw [hg] at f1
        rw [hem, if_neg (by rw [hg]; simp)] at hsn
        by_cases hq : onceF t bs[k].toNat = true ∧ (emits t q0 (bs.take k)).2 = some bk
        · rw [if_pos hq] at hsn
          rw [hq.1] at f2
          have e1 : (bk.toNat : Int) = lastI (emits t q0 (bs.take k)).2 := (lastI_eq _ _).2 hq.2
          rw [← e1] at l0
          have HN : Hid (∀ W, Below wr.heap.size wr W → Cg t fb lb q0 W0 bs (k + 1) u5 W) := fun W hB => ⟨by rw [hsn]; exact HC.out.ca.turn (Turn.below (S := []) hB) (by simp) (by simp), by rw [hsn, List.append_nil]; exact row_turn HC.out.row hB, HC.out.turn.trans (Turn.below hB)⟩
          have hll2 : lb < wr.heap.size := by omega
          have l1 : (wr.alloc (.cells #[.int .u8 (bk.toNat : Int), .bool false, .bool true] 239)).cell? ⟨lb, 0, none⟩ = some (.int .i64 (bk.toNat : Int)) := (((Below.refl _ wr).alloc (Nat.le_refl _) _).cell (p := ⟨lb, 0, none⟩) hll2).trans l0
          have e2 : (wrap64 (bk.toNat : Int) == (bk.toNat : Int)) = true := by rw [hw64]; simp
          generalize bs[k].toNat = cn at *
          clear hsn hem HC hbk hg hq e1
          go_wp2_with fail
          exact ⟨⟨k + 1, by omega, by go_num, HN.out _ ((Below.refl _ wr).alloc (Nat.le_refl _) _)⟩, by simp [intOf]; omega⟩
        · rw [if_neg hq] at hsn
          have hq2 : onceF t bs[k].toNat = false ∨ ¬ (bk.toNat : Int) = lastI (emits t q0 (bs.take k)).2 := by
            by_cases h : onceF t bs[k].toNat = true
            · exact .inr fun e => hq ⟨h, (lastI_eq _ _).1 e⟩
            · exact .inl (by simpa using h)
          obtain ⟨ok, hok⟩ : ∃ ok, onceF t bs[k].toNat = ok := ⟨_, rfl⟩
          rw [hok] at f2 hq2
          obtain ⟨la, hla⟩ : ∃ la, lastI (emits t q0 (bs.take k)).2 = la := ⟨_, rfl⟩
          rw [hla] at l0 hq2
          have hll2 : lb < wr.heap.size := by omega
          obtain ⟨ux, uc, hu5⟩ := own_slice2 HC.out.row
          have l1 : (wr.alloc (.cells #[.int .u8 (bk.toNat : Int), .bool false, .bool ok] 239)).cell? ⟨lb, 0, none⟩ = some (.int .i64 la) := (((Below.refl _ wr).alloc (Nat.le_refl _) _).cell (p := ⟨lb, 0, none⟩) hll2).trans l0
          have HN : Hid (∀ (w9 : World) (v9 : Value), ((wr.alloc (.cells #[.int .u8 (bk.toNat : Int), .bool false, .bool ok] 239)).alloc (.cells #[.int .u8 (bk.toNat : Int)] 5)).grownBy w9 u5.ownBlock → w9.ownsRow W0.heap.size 5 1 v9 ((emits t q0 (bs.take k)).1.length + 1) (u8s (emits t q0 (bs.take k)).1 ++ [.int .u8 (bk.toNat : Int)]) → (w9.heap[wr.heap.size]? = some (.cells #[.int .u8 (bk.toNat : Int), .bool false, .bool ok] 239) ∧ w9.heap[lb]? = some (.cells #[.int .i64 la] 3)) ∧ Cg t fb lb q0 W0 bs (k + 1) v9 (w9.setCell ⟨lb, 0, none⟩ (.int .i64 (bk.toNat : Int)))) := by
            intro w9 v9 hg9 ho9
            have hA2 : Below wr.heap.size wr ((wr.alloc (.cells #[.int .u8 (bk.toNat : Int), .bool false, .bool ok] 239)).alloc (.cells #[.int .u8 (bk.toNat : Int)] 5)) := ((Below.refl _ wr).alloc (Nat.le_refl _) _).alloc (by simp) _
            have hkp : ∀ b, b < wr.heap.size → (∀ j, u5.ownBlock = some j → b ≠ j) → w9.heap[b]? = wr.heap[b]? := fun b hb hn => (hg9.block b (Nat.lt_of_lt_of_le hb hA2.size) (fun e => hn b e.symm rfl)).trans (hA2.block b hb)
            have hl9 : w9.heap[lb]? = some (.cells #[.int .i64 la] 3) := (hkp lb hll2 (fun j ej e => by have := hrg j ej; omega)).trans (hla ▸ HC.out.ca.last)
            have hT9 : Turn [lb] W0 w9 := turn_grown (HC.out.turn.trans (Turn.below hA2)) hg9 hrg
            refine ⟨⟨(hg9.block wr.heap.size (by simp; omega) (fun e => by have := hrl _ e.symm; omega)).trans ((heap_alloc_old _ _ (by simp)).trans (heap_alloc_last wr _)), hl9⟩, ⟨?_, ?_, hT9.trans (Turn.set _ _ _ _ (by simp))⟩⟩
            · rw [hsn]
              refine ⟨?_, by simpa [lastI, hbk] using h_set hl9 0 (.int .i64 (bk.toNat : Int))⟩
              show _ = _
              rw [Below.heap_setCell _ _ _ _ (by simpa using hfl2)]
              exact (hkp fb (by omega) (fun j ej e => by have := hrg j ej; omega)).trans HC.out.ca.fa
            · rw [hsn]
              have hr9 : Row w9 W0.heap.size v9 ((emits t q0 (bs.take k)).1 ++ [bk]) := by
                show w9.ownsRow _ _ _ _ _ _
                rw [u8s_snoc, List.length_append]
                exact ho9
              have := row_ty (i := 0) (x := .int .i64 (bk.toNat : Int)) hr9 hl9 (by decide)
              exact this
          have HRW : Hid (Row ((wr.alloc (.cells #[.int .u8 (bk.toNat : Int), .bool false, .bool ok] 239)).alloc (.cells #[.int .u8 (bk.toNat : Int)] 5)) W0.heap.size u5 (emits t q0 (bs.take k)).1) := row_turn HC.out.row (((Below.refl _ wr).alloc (Nat.le_refl _) _).alloc (by simp) _)
          generalize (emits t q0 (bs.take k)).1 = L at *
          generalize bs[k].toNat = cn at *
          clear hsn hem HC hbk hg hq hrl hrg hla hok
          subst hu5
          have b0 : (wr.alloc (.cells #[.int .u8 (bk.toNat : Int), .bool false, .bool ok] 239)).cell? ⟨wr.heap.size, 0, none⟩ = some (.int .u8 (bk.toNat : Int)) := h_cell (heap_alloc_last wr _) 0 rfl
          have HSZ : Hid (W0.heap.size ≤ (wr.alloc (.cells #[.int .u8 (bk.toNat : Int), .bool false, .bool ok] 239)).heap.size) := by show _ ≤ _; simp; omega
          have HWA : ∀ (ok2 : Bool), ok2 = ok → (wr.alloc (.cells #[.int .u8 (bk.toNat : Int), .bool false, .bool ok] 239)) = (wr.alloc (.cells #[.int .u8 (bk.toNat : Int), .bool false, .bool ok2] 239)) := fun _ h => by rw [h]
          have fin : ∀ wa, wa = (wr.alloc (.cells #[.int .u8 (bk.toNat : Int), .bool false, .bool ok] 239)) → True := fun _ _ => trivial
          clear fin HWA
          rcases hq2 with rfl | hq2
          · clear l1
            have hca := cell_one_at (wr.alloc (.cells #[.int .u8 (bk.toNat : Int), .bool false, .bool false] 239)) (.int .u8 (bk.toNat : Int)) 5 (wr.heap.size + 1) (by simp)
            go_wp2_with (at_builtin; refine wpList_append_own _ rfl _ _ 23 rfl W0.heap.size 5 i0 (.int .u8 0) 1 1 Tryz.underlying23 hi hz0 hz1 hz2 rfl (by decide) _ _ _ rfl HRW.out ⟨wr.heap.size + 1, 0, none⟩ 1 1 [.int .u8 (bk.toNat : Int)] rfl rfl hca (by simp [Value.oneCell']) (by unfold maxLen; omega) (by omega) (by have := HSZ.out; simp; omega) ?_; intro v2 w9 hown2 hgrow2 _; obtain ⟨hh9, hcg9⟩ := HN.out w9 v2 hgrow2 hown2; obtain ⟨xb, cb, rfl⟩ := own_slice2 hown2; have g0 := h_cell hh9.1 0 rfl; have g1 := h_cell hh9.2 0 rfl; have gz := h_fz hh9.2 0; have HCG := Lib.hid hcg9; clear hh9 hcg9 hown2 hgrow2)
            exact ⟨⟨k + 1, by omega, by go_num, HCG⟩, by simp [intOf]; omega⟩
          · have hq3 : ((bk.toNat : Int) == la) = false := by rw [beq_eq_false_iff_ne]; exact hq2
            have hq4 : (wrap64 (bk.toNat : Int) == la) = false := by rw [hw64, beq_eq_false_iff_ne]; exact hq2
            cases ok with
            | false =>
              clear l1
              have hca := cell_one_at (wr.alloc (.cells #[.int .u8 (bk.toNat : Int), .bool false, .bool false] 239)) (.int .u8 (bk.toNat : Int)) 5 (wr.heap.size + 1) (by simp)
              go_wp2_with (at_builtin; refine wpList_append_own _ rfl _ _ 23 rfl W0.heap.size 5 i0 (.int .u8 0) 1 1 Tryz.underlying23 hi hz0 hz1 hz2 rfl (by decide) _ _ _ rfl HRW.out ⟨wr.heap.size + 1, 0, none⟩ 1 1 [.int .u8 (bk.toNat : Int)] rfl rfl hca (by simp [Value.oneCell']) (by unfold maxLen; omega) (by omega) (by have := HSZ.out; simp; omega) ?_; intro v2 w9 hown2 hgrow2 _; obtain ⟨hh9, hcg9⟩ := HN.out w9 v2 hgrow2 hown2; obtain ⟨xb, cb, rfl⟩ := own_slice2 hown2; have g0 := h_cell hh9.1 0 rfl; have g1 := h_cell hh9.2 0 rfl; have gz := h_fz hh9.2 0; have HCG := Lib.hid hcg9; clear hh9 hcg9 hown2 hgrow2)
              exact ⟨⟨k + 1, by omega, by go_num, HCG⟩, by simp [intOf]; omega⟩
            | true =>
              have hca := cell_one_at (wr.alloc (.cells #[.int .u8 (bk.toNat : Int), .bool false, .bool true] 239)) (.int .u8 (bk.toNat : Int)) 5 (wr.heap.size + 1) (by simp)
              go_wp2_with (at_builtin; refine wpList_append_own _ rfl _ _ 23 rfl W0.heap.size 5 i0 (.int .u8 0) 1 1 Tryz.underlying23 hi hz0 hz1 hz2 rfl (by decide) _ _ _ rfl HRW.out ⟨wr.heap.size + 1, 0, none⟩ 1 1 [.int .u8 (bk.toNat : Int)] rfl rfl hca (by simp [Value.oneCell']) (by unfold maxLen; omega) (by omega) (by have := HSZ.out; simp; omega) ?_; intro v2 w9 hown2 hgrow2 _; obtain ⟨hh9, hcg9⟩ := HN.out w9 v2 hgrow2 hown2; obtain ⟨xb, cb, rfl⟩ := own_slice2 hown2; have g0 := h_cell hh9.1 0 rfl; have g1 := h_cell hh9.2 0 rfl; have gz := h_fz hh9.2 0; have HCG := Lib.hid hcg9; clear hh9 hcg9 hown2 hgrow2)
              exact ⟨⟨k + 1, by omega, by go_num, HCG⟩, by simp [intOf]; omega⟩
    · obtain rfl : k = bs.length := by omega
      have HD : Hid (Row wr W0.heap.size u5 (emits t q0 bs).1 ∧ ChA t fb lb (emits t q0 bs).2 wr ∧ Turn [lb] W0 wr) := by
        have h := HC.out
        exact ⟨by have := h.row; rwa [List.take_length] at this, by have := h.ca; rwa [List.take_length] at this, h.turn⟩
      have n1 : ¬ ((bs.length : Int) < (bs.length : Int)) := by omega
      go_wp2_with fail
      go_ret
      exact ⟨_, rfl, HD.out.1, HD.out.2.1, HD.out.2.2⟩
end
end Go.Proofs.YtfkoehfkiommpaaGreatDoor.Tr
