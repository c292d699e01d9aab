/- copyKids. -/
import Derived.Deep.RegionHeld3
import Derived.Deep.WholeRow
import Derived.Test.YtlekfdkahlobiaaGreatDoorHNd1
import Derived.Test.YtlekfdkahlobiaaGreatDoorGBase
import Derived.Test.YtlekfdkahlobiaaGreatDoorHJoin
namespace Go.Proofs.YtlekfdkahlobiaaGreatDoor.Re
open Go.Proofs.YtlekfdkahlobiaaGreatDoor.Tr
open Go.RowKit

theorem info260 : (Tryz.prog.info? 54).map (·.size) = some 260 := by kernel_rfl
theorem ndC_one (k : Nat) (p : UInt8 → Bool) (m n : Int) {kv : Value} (h : ∃ a l c, kv = .slice a l c) : (ndC k p m n kv).all (·.oneCell') = true := by
  obtain ⟨a, l, c, rfl⟩ := h
  rw [Array.all_eq_true_iff_forall_mem]
  intro v hv
  have hv : v ∈ (ndC k p m n (.slice a l c)).toList := by simpa using hv
  rw [p_ndC_list] at hv
  rcases List.mem_cons.1 hv with rfl | hv
  · rfl
  rcases List.mem_append.1 hv with hv | hv
  · obtain ⟨i, _, rfl⟩ := List.mem_map.1 hv
    rfl
  · rcases List.mem_cons.1 hv with rfl | hv
    · rfl
    rcases List.mem_cons.1 hv with rfl | hv
    · rfl
    · rcases List.mem_singleton.1 hv with rfl
      rfl
theorem RowQ.shape {gl : Nat} {w : World} {kv : Value} {l : List Nd} (h : RowQ gl w kv l) : ∃ a l' c, kv = .slice a l' c := by
  rcases h with ⟨e, _⟩ | ⟨kb, off, cap, cs, e, _⟩
  · exact ⟨_, _, _, e⟩
  · exact ⟨_, _, _, e⟩
theorem zeroC_size : Tryz.zeroCells54.size = 260 := by rw [p_zeroC, ndC_size]
theorem cell_oneP (W : World) (a : Value) (T : Nat) : ∀ j u, [a][j]? = some u → (W.alloc (.cells #[a] T)).cell? ((⟨W.heap.size, 0, none⟩ : Addr).add j) = some u := by
  intro j u h
  rcases j with _ | j
  · cases h
    rw [Addr.add_lit]
    exact h_cell (al_new W _) 0 rfl
  · simp at h
theorem CkI.below {gl : Nat} {w0 u u' : World} {L : List (Value × Nd)} {v : Value} {L1 : List (Value × Nd)} (h : CkI gl w0 L u v L1) (hB : Below u.heap.size u u') : CkI gl w0 L u' v L1 :=
  ⟨h.bel.trans (hB.mono h.bel.size), row_keep h.row fun g _ hg => (hB.block g (h_lt hg)).trans hg, h.nil, fun j q hq => by
    obtain ⟨b0, b, cs, h1, h2, h3, h4, h5⟩ := h.cop j q hq
    exact ⟨b0, b, cs, h1, h2, h3, h4, (hB.block b (h_lt h5)).trans h5⟩⟩
theorem CkI.app {gl : Nat} {w0 u u' : World} {L : List (Value × Nd)} {v v' : Value} {L1 : List (Value × Nd)} (h : CkI gl w0 L u v L1) {b0 b : Nat} {x : Nd} {cs : Array Value} (hL : L[L1.length]? = some (ptr b0, x)) (hb : w0.heap.size ≤ b) (h0 : w0.heap[b0]? = some (.cells cs 54)) (h1 : u.heap[b]? = some (.cells cs 54)) (ho : u'.ownsRow w0.heap.size 30 1 v' (L1.length + 1) (L1.map Prod.fst ++ [ptr b])) (hg : u.grownBy u' v.ownBlock) : CkI gl w0 L u' v' (L1 ++ [(ptr b, x)]) := by
  refine ⟨h.bel.grown hg h.bel.size (fun k hk => (h.row.lt k hk).1), by rw [List.length_append, List.map_append]; exact ho, fun e => by simp at e, fun j q hq => ?_⟩
  by_cases hj : j < L1.length
  · rw [List.getElem?_append_left hj] at hq
    obtain ⟨c0, c, cs', g1, g2, g3, g4, g5⟩ := h.cop j q hq
    exact ⟨c0, c, cs', g1, g2, g3, g4, grown_other h.row hg (by decide) g5⟩
  · rw [List.getElem?_append_right (by omega)] at hq
    rcases hi : j - L1.length with _ | i
    · rw [hi] at hq
      cases hq
      have : j = L1.length := by omega
      subst this
      exact ⟨b0, b, cs, hL, rfl, hb, h0, grown_other h.row hg (by decide) h1⟩
    · rw [hi] at hq; simp at hq
set_option maxHeartbeats 4000000 in
set_option maxRecDepth 100000 in
theorem copyKids_c {gl nb k : Nat} {p : UInt8 → Bool} {m n : Int} {a : Option Addr} {cap : Nat} {w : World} {L : List (Value × Nd)} (hgl : gl < w.heap.size) (hb : BlkAt 54 w nb k p m n (.slice a L.length cap)) (hl : L.length ≤ 30000) (hc : L.length ≤ cap ∧ cap ≤ 9223372036854775807) (hk : ∀ (i : Nat) (q : Value × Nd), L[i]? = some q → NodeQ gl w q.1 q.2 ∧ ∃ kb off, a = some ⟨kb, off, none⟩ ∧ w.cell? ⟨kb, off + i, none⟩ = some q.1) :
    Calls Tryz.prog 21 #[ptr nb] w (CkO gl nb L w) := by
  obtain ⟨i0, hi, hz0, hz1, hz2⟩ := p_info info_pn
  have c259 := h_cell hb 259 (ndC_kv _ _ _ _ _)
  have HI0 : Hid (CkI gl w L w (.slice none 0 0) []) := ⟨Below.refl _ _, ⟨rfl, .inl ⟨rfl, rfl⟩⟩, fun _ => rfl, fun j q hq => by simp at hq⟩
  have HFin : Hid (∀ wr v L1, CkI gl w L wr v L1 → L1.length = L.length → CkO gl nb L w (.returned v) (wr.setCell ⟨nb, 259, none⟩ v)) := fun wr v L1 h1 h2 => ck_fin hgl hb hk h1 h2
  have HK := Lib.hid hk
  have HBk := Lib.hid hb
  clear hk hb
  go_enter Tryz.func21, Tryz.ntmps21
  go_wp2_with fail
  go_loopw [3, 5, 6, 12] (fun v3 _ _ v12 wr => ∃ (i : Nat) (va : Option Addr) (vc : Nat) (L1 : List (Value × Nd)), i ≤ L.length ∧ v12 = .int .i64 (i : Int) ∧ v3 = .slice va L1.length vc ∧ L1.length = i ∧ Hid (CkI gl w L wr (.slice va L1.length vc) L1)) (fun _ _ _ v12 _ => L.length - (intOf v12).toNat)
  case atStart => exact ⟨0, none, 0, [], by omega, rfl, rfl, rfl, HI0⟩
  case round =>
    obtain ⟨i, va, vc, L1, hi1, rfl, rfl, hL1, HI⟩ := hrel
    have HL1 := Lib.hid hL1
    clear HI0 hL1
    by_cases hlt : i < L.length
    · have n1 : (i : Int) < (L.length : Int) := by omega
      obtain ⟨q, hq⟩ : ∃ q, L[i]? = some q := ⟨_, List.getElem?_eq_getElem hlt⟩
      obtain ⟨hN, kb, off, rfl, hcu⟩ := HK.out i q hq
      obtain ⟨qv, k1, p1, m1, n1', l1⟩ := q
      obtain ⟨b0, kv0, e, hB0, hR0⟩ := nodeQ_iff.1 hN
      cases e
      have hcw := cell_below HI.out.bel hcu
      have hsz := ndC_size k1 p1 m1 n1' kv0
      have hone := ndC_one k1 p1 m1 n1' hR0.shape
      obtain ⟨cs, hcs⟩ : ∃ cs, ndC k1 p1 m1 n1' kv0 = cs := ⟨_, rfl⟩
      rw [hcs] at hsz hone
      have hB1 : w.heap[b0]? = some (.cells cs 54) := by rw [← hcs]; exact hB0
      have hB2 : wr.heap[b0]? = some (.cells cs 54) := (HI.out.bel.block _ (h_lt hB1)).trans hB1
      have HQ := Lib.hid (And.intro hq (And.intro hB1 hB2))
      clear hq hN hcu hB0 hB1 hcs
      go_wp2_with fail
      refine wp_load_arr 54 (.tmp 17) rfl b0 cs rfl 54 HQ.out.2.2 Tryz.underlying54 rfl (by rw [hsz]; exact info260) ?_
      have hst := run_storeCells_new (P := Tryz.prog) wr 54 Tryz.zeroCells54 cs (by rw [hsz]; exact info260) (by rw [zeroC_size, hsz]) hone
      have H2 := Lib.hid (HI.out.below ((Below.refl _ wr).alloc (Nat.le_refl _) (.cells cs 54)))
      have H3 := Lib.hid (H2.out.below ((Below.refl _ _).alloc (Nat.le_refl _) (.cells #[ptr wr.heap.size] 30)))
      have hws := HI.out.bel.size
      go_wp2_with (at_builtin; refine wpList_append_lies _ rfl _ _ 52 rfl w.heap.size 30 i0 (.pointer none) 1 8 Tryz.underlying52 hi hz0 hz1 hz2 rfl (by decide) (.slice va L1.length vc) L1.length (L1.map Prod.fst) rfl H3.out.row ⟨wr.heap.size + 1, 0, none⟩ 1 1 [ptr wr.heap.size] rfl rfl (by have := cell_oneP (wr.alloc (.cells cs 54)) (ptr wr.heap.size) 30; rwa [al_size] at this) (by simp [Value.oneCell']) (by omega) (by unfold maxLen; have := HL1.out; omega) (by have := HL1.out; omega) (by simp; omega) _ rfl ?_; intro g cap2 w4 hown4 hgrow4 hat4 hlt4; have H4 := Lib.hid (H3.out.app (b0 := b0) (b := wr.heap.size) (x := ⟨k1, p1, m1, n1', l1⟩) (cs := cs) (by rw [HL1.out]; exact HQ.out.1) hws HQ.out.2.1 ((al_old _ _ (by rw [al_size]; omega)).trans (al_new _ _)) hown4 hgrow4); clear hown4 hgrow4 hat4 hlt4)
      have hl1 := HL1.out
      exact ⟨⟨i + 1, some ⟨g, 0, none⟩, cap2, L1 ++ [(ptr wr.heap.size, ⟨k1, p1, m1, n1', l1⟩)], by omega, by go_num, by rw [List.length_append]; rfl, by rw [List.length_append, hl1]; rfl, (by rw [List.length_append]; exact H4)⟩, by simp [intOf]; omega⟩
    · obtain rfl : i = L.length := by omega
      have n1 : ¬ (L.length : Int) < (L.length : Int) := by omega
      have hbw : BlkAt 54 wr nb k p m n (.slice a L.length cap) := (HI.out.bel.block _ (h_lt HBk.out)).trans HBk.out
      have d259 := h_cell hbw 259 (ndC_kv _ _ _ _ _)
      have z259 := h_fz hbw 259
      have HF := Lib.hid (HFin.out _ _ _ HI.out HL1.out)
      clear HI hbw
      go_wp2_with fail
      go_ret
      exact HF.out
end Go.Proofs.YtlekfdkahlobiaaGreatDoor.Re

namespace Go.Proofs.YtlekfdkahlobiaaGreatDoor.Re
open Go.Proofs.YtlekfdkahlobiaaGreatDoor.Tr

-- how long what is told is
theorem rangeS_len (c k : Nat) : (rangeS c k).length ≤ 5 := by
  unfold rangeS twoS
  split <;> simp
theorem rangesS_len (p : UInt8 → Bool) : ∀ (f c : Nat) (sep : List UInt8), sep.length ≤ 1 → (rangesS p f c sep).length ≤ 6 * f
  | 0, _, _, _ => Nat.zero_le _
  | f + 1, c, sep, h => by
    rw [rangesS]
    split
    · simp
    split
    · have h1 := rangesS_len p f (runE p 256 c + 1) [44] (by simp)
      have h2 := rangeS_len c (runE p 256 c)
      simp only [List.length_append]
      omega
    · have := rangesS_len p f (c + 1) sep h
      omega
theorem dig_len : ∀ u, u < 256 → (dgB 10 u).length ≤ 3 := by decide +kernel
theorem digL_len {n : Int} (h : 0 ≤ n) (h2 : n ≤ 255) : (digL 10 n).length ≤ 3 := by
  rw [digL, if_neg (by omega)]
  exact dig_len _ (by omega)
theorem text_len : ∀ (x : Nd), x.wf = true → x.text.length + 4 ≤ 2000 * x.size
  | ⟨k, p, m, n, l⟩, h => by
    rw [Nd.wf] at h
    simp only [Bool.and_eq_true, decide_eq_true_eq] at h
    have hl := fun sep first (hs : sep.length ≤ 1) => texts_len l sep first h.2 hs
    have hz : Nd.size.sizes l + 1 ≤ (⟨k, p, m, n, l⟩ : Nd).size := by
      rw [Nd.size]
      split
      · have : Nd.size.sizes l * 1 ≤ Nd.size.sizes l * max 1 (if n < 0 then m else n).toNat := Nat.mul_le_mul_left _ (Nat.le_max_left _ _)
        omega
      · omega
    rw [Nd.text]
    split
    · simp; omega
    split
    · simp; omega
    split
    · simp; omega
    split
    · have := rangesS_len p 257 0 [] (by simp)
      unfold setT
      simp only [List.length_cons, List.length_append, List.length_nil]
      omega
    split
    · have h1 := hl [] true (by simp)
      have h2 := digL_len (n := m) (by omega) (by omega)
      have h3 : (if n < 0 then [] else digL 10 n).length ≤ 3 := by
        split
        · simp
        · exact digL_len (by omega) (by omega)
      simp only [List.length_cons, List.length_append, List.length_nil]
      omega
    · have h1 := hl (if k = 5 then [124] else []) true (by split <;> simp)
      simp only [List.length_cons, List.length_append, List.length_nil]
      omega
  where texts_len : ∀ (l : List Nd) (sep : List UInt8) (first : Bool), Nd.wf.wfs l = true → sep.length ≤ 1 → (Nd.text.texts sep first l).length ≤ 2000 * Nd.size.sizes l
  | [], _, _, _, _ => Nat.zero_le _
  | x :: l, sep, first, h, hs => by
    rw [Nd.wf.wfs, Bool.and_eq_true] at h
    have h1 := text_len x h.1
    have h2 := texts_len l sep false h.2 hs
    rw [Nd.text.texts, Nd.size.sizes]
    have h3 : (if first = true then [] else sep).length ≤ 1 := by
      split
      · simp
      · exact hs
    simp only [List.length_append]
    omega

end Go.Proofs.YtlekfdkahlobiaaGreatDoor.Re

namespace Go.Proofs.YtlekfdkahlobiaaGreatDoor.Re
open Go.RowKit

def outM : Value → Nat | .string s => if s.size = 0 then 1 else 0 | _ => 0
theorem cat1 (c : UInt8) (l : List UInt8) : Value.string (⟨#[c]⟩ ++ ⟨l.toArray⟩) = .string ⟨(c :: l).toArray⟩ := by
  congr 1
theorem meas (v v' : Value) (r r' : Value) {c : UInt8} {l : List UInt8} (hv : v' = .string ⟨(c :: l).toArray⟩) (h : (intOf r').natAbs < (intOf r).natAbs) : outM v' + (intOf r').natAbs < outM v + (intOf r).natAbs := by
  subst hv; have : outM (.string ⟨(c :: l).toArray⟩) = 0 := by simp [outM, ByteArray.size]
  omega
theorem meas2 (v v' : Value) (r r' : Value) {c : UInt8} {l : List UInt8} (hv : v' = .string ⟨(c :: l).toArray⟩) (h0 : v = .string ⟨([] : List UInt8).toArray⟩) (h : (intOf r').natAbs ≤ (intOf r).natAbs) : outM v' + (intOf r').natAbs < outM v + (intOf r).natAbs := by
  subst hv; subst h0; have : outM (.string ⟨(c :: l).toArray⟩) = 0 := by simp [outM, ByteArray.size]
  have : outM (.string ⟨([] : List UInt8).toArray⟩) = 1 := rfl
  omega
theorem retS_of {a b : List UInt8} (h : b = a) : Ending.returned (.string ⟨a.toArray⟩) = .returned (.string ⟨b.toArray⟩) := by rw [h]
theorem conv1 (w : World) (c : UInt8) : (convert 35 9 (.slice (some ⟨w.heap.size, 0, none⟩) 1 1)).run Tryz.prog (w.alloc (.cells #[.int .u8 (c.toNat : Int)] 5)) = .ok (.string ⟨#[c]⟩) (w.alloc (.cells #[.int .u8 (c.toNat : Int)] 5)) :=
  run_convert_bytes_back (P := Tryz.prog) _ 35 9 5 ⟨w.heap.size, 0, none⟩ 1 [c] Tryz.underlying35 Tryz.underlying5 Tryz.underlying9 (fun j hj => by
    obtain rfl : j = 0 := by simpa using hj
    rw [Addr.add_lit]; simp only [World.cell?, al_new]; rfl)
theorem idx_signs16 (d : Nat) (h : d < 16) : ∀ w, (Instr.index 9 (.string ⟨#[48, 49, 50, 51, 52, 53, 54, 55, 56, 57, 97, 98, 99, 100, 101, 102]⟩) (.int .i64 (d : Int))).run Tryz.prog w = .ok (.int .u8 ((sgn d).toNat : Int)) w := by
  match d, h with
  | 0, _ => intro w; kernel_rfl
  | 1, _ => intro w; kernel_rfl
  | 2, _ => intro w; kernel_rfl
  | 3, _ => intro w; kernel_rfl
  | 4, _ => intro w; kernel_rfl
  | 5, _ => intro w; kernel_rfl
  | 6, _ => intro w; kernel_rfl
  | 7, _ => intro w; kernel_rfl
  | 8, _ => intro w; kernel_rfl
  | 9, _ => intro w; kernel_rfl
  | 10, _ => intro w; kernel_rfl
  | 11, _ => intro w; kernel_rfl
  | 12, _ => intro w; kernel_rfl
  | 13, _ => intro w; kernel_rfl
  | 14, _ => intro w; kernel_rfl
  | 15, _ => intro w; kernel_rfl
  | n + 16, h => exact absurd h (by omega)
set_option maxHeartbeats 2000000 in
set_option maxRecDepth 100000 in
theorem refDig10P (u0 : Nat) (hu0 : u0 ≤ 9223372036854775807) (w : World) :
    Calls Tryz.prog 23 #[.int .i64 u0, .int .i64 10] w fun e w' => e = .returned (.string ⟨( dgB 10 u0).toArray⟩) ∧ Below w.heap.size w w' := by
  go_enter Tryz.func23, Tryz.ntmps23
  go_wp2
  go_loopw [6, 7] (fun vo vr wr => ∃ (u : Nat) (out : List UInt8), vr = .int .i64 (u : Int) ∧ vo = .string ⟨out.toArray⟩ ∧ u ≤ u0 ∧ out.length ≤ 64 ∧ Hid (DigInv 10 u0 u out) ∧ Below w.heap.size w wr ∧ w.heap.size ≤ wr.heap.size) (fun vo vr _ => outM vo + (intOf vr).natAbs)
  case atStart => exact ⟨u0, [], rfl, rfl, Nat.le_refl _, by simp, DigInv.start _ _, Below.refl _ _, Nat.le_refl _⟩
  case round =>
    obtain ⟨u, out, rfl, rfl, hu, ho, HI, hb, hsz⟩ := hrel
    by_cases hc : u ≠ 0 ∨ out = []
    · obtain ⟨d, HD⟩ : ∃ d : Nat, Hid (d = u % 10) := ⟨_, rfl⟩
      have hd : d < 10 := by have := HD.out; omega
      have hX := idx_signs16 d (by omega)
      have hcv := conv1 wr (sgn d)
      have HN : Hid (DigInv 10 u0 (u / 10) (sgn d :: out)) := by show DigInv _ _ _ _; rw [HD.out]; exact HI.out.next (by omega) hc
      have hol : (sgn d :: out).length ≤ 64 := HN.out.length (by omega) (by omega)
      have he : (u : Int) % 10 = (d : Int) := by rw [HD.out]; rfl
      have hb' : Below w.heap.size w (wr.alloc (.cells #[.int .u8 ((sgn d).toNat : Int)] 5)) := hb.alloc hsz _
      by_cases hu0' : u = 0
      · have hout : out = [] := by rcases hc with h | h; exact absurd hu0' h; exact h
        have hne : (((u : Int)) != 0) = false := by rw [bne_eq_false_iff_eq]; omega
        have hem : out.isEmpty = true := by rw [hout]; rfl
        have HO := Lib.hid hout
        have HU := Lib.hid hu0'
        clear hc hout hu0'
        go_wp2
        all_goals
          go_roundw
          case rel => exact ⟨u / 10, sgn d :: out, by first | rfl | go_num | rfl, cat1 _ _, by have := Nat.div_le_self u 10; omega, hol, HN, hb', by simp; omega⟩
          case measure => exact meas2 _ _ _ _ (cat1 _ _) (by rw [HO.out]) (by have := HU.out; simp [intOf]; omega)
      · have hne : (((u : Int)) != 0) = true := by rw [bne_iff_ne]; omega
        clear hc
        go_wp2
        all_goals
          go_roundw
          case rel => exact ⟨u / 10, sgn d :: out, by first | rfl | go_num | rfl, cat1 _ _, by have := Nat.div_le_self u 10; omega, hol, HN, hb', by simp; omega⟩
          case measure => exact meas _ _ _ _ (cat1 _ _) (by have := Nat.div_lt_self (show 0 < u by omega) (show 1 < 10 by omega); simp [intOf]; omega)
    · obtain rfl : u = 0 := by omega
      have hout : out ≠ [] := by intro h; exact hc (.inr h)
      have hem : out.isEmpty = false := by simpa using hout
      have HE := Lib.hid (HI.out.done ⟨rfl, hout⟩)
      clear hc
      go_wp2
      go_ret
      exact ⟨retS_of HE.out.symm, hb⟩

end Go.Proofs.YtlekfdkahlobiaaGreatDoor.Re

namespace Go.Proofs.YtlekfdkahlobiaaGreatDoor.Re
open Go.RowKit

theorem conv2 (w : World) (c d : UInt8) : (convert 35 9 (.slice (some ⟨w.heap.size, 0, none⟩) 2 2)).run Tryz.prog (w.alloc (.cells #[.int .u8 (c.toNat : Int), .int .u8 (d.toNat : Int)] 5)) = .ok (.string ⟨#[c, d]⟩) (w.alloc (.cells #[.int .u8 (c.toNat : Int), .int .u8 (d.toNat : Int)] 5)) :=
  run_convert_bytes_back (P := Tryz.prog) _ 35 9 5 ⟨w.heap.size, 0, none⟩ 2 [c, d] Tryz.underlying35 Tryz.underlying5 Tryz.underlying9 (fun j hj => by
    rcases j with _ | _ | j
    · rw [Addr.add_lit]; simp only [World.cell?, al_new]; rfl
    · rw [Addr.add_lit]; simp only [World.cell?, al_new]; rfl
    · exact absurd hj (by simp))
def signs : ByteArray := ⟨#[48, 49, 50, 51, 52, 53, 54, 55, 56, 57, 97, 98, 99, 100, 101, 102]⟩
theorem signs_at (a : Nat) (h : a < signs.size) : signs[a] = sgn a := by
  have h16 : a < 16 := h
  match a, h16 with
  | 0, _ => rfl
  | 1, _ => rfl
  | 2, _ => rfl
  | 3, _ => rfl
  | 4, _ => rfl
  | 5, _ => rfl
  | 6, _ => rfl
  | 7, _ => rfl
  | 8, _ => rfl
  | 9, _ => rfl
  | 10, _ => rfl
  | 11, _ => rfl
  | 12, _ => rfl
  | 13, _ => rfl
  | 14, _ => rfl
  | 15, _ => rfl
  | n + 16, h => omega
set_option maxHeartbeats 1000000 in
set_option maxRecDepth 100000 in
theorem two_c (c : Nat) (w : World) (hc : c < 256) :
    Calls Tryz.prog 22 #[.int .i64 (c : Int)] w fun e w' => e = .returned (.string (bs (twoS c))) ∧ Below w.heap.size w w' := by
  obtain ⟨a, HA⟩ : ∃ a : Nat, Hid (a = c / 16) := ⟨_, rfl⟩
  obtain ⟨b, HB⟩ : ∃ b : Nat, Hid (b = c % 16) := ⟨_, rfl⟩
  have e1 : (c : Int) / 16 = (a : Int) := by rw [HA.out]; rfl
  have e2 : (c : Int) % 16 = (b : Int) := by rw [HB.out]; rfl
  have tm : (c : Int).tmod 16 = (b : Int) := by rw [Int.tmod_eq_emod_of_nonneg (by omega)]; exact e2
  have wa : IntKind.i64.wrap (a : Int) = (a : Int) := IntWalk.i64_in _ (by have := HA.out; omega)
  have ha : a < signs.size := by have := HA.out; show a < 16; omega
  have hb : b < signs.size := by have := HB.out; show b < 16; omega
  have HT : Hid (twoS c = [signs[a], signs[b]]) := by
    show _ = _
    rw [signs_at a ha, signs_at b hb, HA.out, HB.out]; rfl
  go_enter Tryz.func22, Tryz.ntmps22
  go_wp2_with fail
  rw [show (⟨#[48, 49, 50, 51, 52, 53, 54, 55, 56, 57, 97, 98, 99, 100, 101, 102]⟩ : ByteArray) = signs from rfl]
  generalize signs = S at ha hb HT ⊢
  have ba : (a : Int) < (S.size : Int) := by omega
  have bb : (b : Int) < (S.size : Int) := by omega
  have cv0 := fun u => conv2 u S[a] S[b]
  have cv : ∀ u : World, (convert 35 9 (.slice (some ⟨u.heap.size, 0, none⟩) 2 2)).run Tryz.prog (u.alloc (.cells #[.int .u8 (S[a].toNat : Int), .int .u8 (S[b].toNat : Int)] 5)).drew = .ok (.string ⟨#[S[a], S[b]]⟩) (u.alloc (.cells #[.int .u8 (S[a].toNat : Int), .int .u8 (S[b].toNat : Int)] 5)).drew := fun u => conv2 u.drew S[a] S[b]
  go_region
  all_goals
    go_wp2_with fail
    go_ret
    exact ⟨by rw [HT.out]; rfl, below_drew ((Below.refl _ w).alloc (Nat.le_refl _) _)⟩

theorem out_1 {R out sep : List UInt8} {p : UInt8 → Bool} {c : Nat} (h : R = out ++ rangesF p c sep) (hc : c < 256) (hp : p (UInt8.ofNat c) = true) (hk : runF p c = c) : R = (out ++ sep ++ twoS c) ++ rangesF p (c + 1) [44] := by
  rw [h, rangesF_yes hc hp, hk, rangeS, if_neg (by omega)]; simp
theorem out_2 {R out sep : List UInt8} {p : UInt8 → Bool} {c k : Nat} (h : R = out ++ rangesF p c sep) (hc : c < 256) (hp : p (UInt8.ofNat c) = true) (hk : runF p c = k) (hl : c < k) : R = (out ++ sep ++ twoS c ++ [45] ++ twoS k) ++ rangesF p (k + 1) [44] := by
  rw [h, rangesF_yes hc hp, hk, rangeS, if_pos hl]; simp
set_option maxHeartbeats 4000000 in
set_option maxRecDepth 100000 in
theorem set_text (b : Nat) (p : UInt8 → Bool) (m n : Int) (kv : Value) (w : World) (hb : BlkAt 57 w b 1 p m n kv) :
    Calls Tryz.prog 10 #[ptr b] w fun e w' => e = .returned (.string (bs (setT p))) ∧ Below w.heap.size w w' := by
  have c0 := h_cell hb 0 (ndC_0 1 p m n kv)
  have HC : Hid (∀ u, Below w.heap.size w u → ∀ i, i < 256 → u.cell? ⟨b, 1 + i, none⟩ = some (.bool (p (UInt8.ofNat i)))) := fun u hu i hi => (hu.cell (p := ⟨b, 1 + i, none⟩) (h_lt hb)).trans (h_cell hb (1 + i) (ndC_has 1 p m n kv i hi))
  clear hb
  go_enter Tryz.func10, Tryz.ntmps10
  go_wp2_with fail
  go_loopw [3, 4, 5, 6] (fun vs vp vc _ wr => ∃ (c : Nat) (out sep : List UInt8), c ≤ 256 ∧ vc = .int .i64 c ∧ vs = .string ⟨out.toArray⟩ ∧ vp = .string ⟨sep.toArray⟩ ∧ sep.length ≤ 1 ∧ out.length ≤ 6 * c ∧ Hid (rangesF p 0 [] = out ++ rangesF p c sep ∧ Below w.heap.size w wr)) (fun _ _ vc _ _ => 256 - (intOf vc).toNat)
  case atStart => exact ⟨0, [], [], by omega, rfl, rfl, rfl, by simp, by simp, (show _ ∧ _ from ⟨by simp, Below.refl _ _⟩)⟩
  case round =>
    obtain ⟨c, out, sep, hc, rfl, rfl, rfl, hsep, hout, HI⟩ := hrel
    by_cases hlt : c < 256
    · have g0 : (c : Int) < 256 := by omega
      have cc := HC.out wr HI.out.2 c hlt
      cases hp : p (UInt8.ofNat c) with
      | false =>
        rw [hp] at cc
        have HN : Hid (rangesF p 0 [] = out ++ rangesF p (c + 1) sep ∧ Below w.heap.size w wr) := ⟨by rw [HI.out.1, rangesF_no hlt hp], HI.out.2⟩
        clear hp HI
        go_wp2_with fail
        exact ⟨⟨c + 1, out, sep, by omega, by go_num, rfl, rfl, hsep, by omega, HN⟩, by simp [intOf]; omega⟩
      | true =>
        rw [hp] at cc
        have HP := Lib.hid hp
        clear hp
        go_wp2_with fail
        go_loop [6] (fun vk => ∃ k : Nat, c ≤ k ∧ k ≤ 255 ∧ vk = .int .i64 k ∧ Hid (runF p c = runF p k)) (fun vk => 255 - (intOf vk).toNat)
        case atStart => exact ⟨c, by omega, by omega, rfl, rfl⟩
        case round =>
          obtain ⟨k, hk1, hk2, rfl, HK⟩ := hrel
          have tc := two_c c wr hlt
          by_cases hk : k < 255
          · have g1 : (k : Int) < 255 := by omega
            have ck := HC.out wr HI.out.2 (k + 1) (by omega)
            cases hp : p (UInt8.ofNat (k + 1)) with
            | true =>
              rw [hp] at ck
              have HN : Hid (runF p c = runF p (k + 1)) := HK.out.trans (runF_go hk hp)
              clear hp HK tc
              go_wp2_with fail
              exact ⟨⟨k + 1, by omega, by omega, by go_num, HN⟩, by simp [intOf]; omega⟩
            | false =>
              rw [hp] at ck
              have HN : Hid (runF p c = k) := HK.out.trans (runF_end (fun h => by rw [hp] at h; exact absurd h.2 (by simp)))
              clear hp HK
              by_cases hck : c < k
              · go_wp2_with fail
                refine tc.mono ?_
                rintro e w2 ⟨rfl, hB2⟩
                have tk := two_c k w2 (by omega)
                have HB2 : Hid (Below w.heap.size w w2) := HI.out.2.trans (hB2.mono HI.out.2.size)
                have HO := Lib.hid (out_2 HI.out.1 hlt HP.out HN.out hck)
                have l2 : (bs (twoS c)).size = 2 := rfl
                have l3 : (bs (twoS k)).size = 2 := rfl
                clear tc hB2 HI HN
                go_wp2_with fail
                refine tk.mono ?_
                rintro e w3 ⟨rfl, hB3⟩
                have HB3 : Hid (Below w.heap.size w w3) := HB2.out.trans (hB3.mono HB2.out.size)
                clear tk hB3 HB2
                go_wp2_with fail
                exact ⟨⟨k + 1, _, [44], by omega, by go_num, rfl, rfl, by simp, by simp [twoS, bs_size]; omega, (show _ ∧ _ from ⟨HO.out, HB3.out⟩)⟩, by simp [intOf]; omega⟩
              · obtain rfl : c = k := by omega
                go_wp2_with fail
                refine tc.mono ?_
                rintro e w2 ⟨rfl, hB2⟩
                have HB2 : Hid (Below w.heap.size w w2) := HI.out.2.trans (hB2.mono HI.out.2.size)
                have HO := Lib.hid (out_1 HI.out.1 hlt HP.out HN.out)
                have l2 : (bs (twoS c)).size = 2 := rfl
                clear tc hB2 HI HN
                go_wp2_with fail
                exact ⟨⟨c + 1, _, [44], by omega, by go_num, rfl, rfl, by simp, by simp [twoS, bs_size]; omega, (show _ ∧ _ from ⟨HO.out, HB2.out⟩)⟩, by simp [intOf]; omega⟩
          · obtain rfl : k = 255 := by omega
            have HN : Hid (runF p c = 255) := HK.out.trans (runF_end (fun h => by omega))
            clear HK hk hk2
            by_cases hck : c < 255
            · go_wp2_with fail
              refine tc.mono ?_
              rintro e w2 ⟨rfl, hB2⟩
              have tk := two_c 255 w2 (by omega)
              have HB2 : Hid (Below w.heap.size w w2) := HI.out.2.trans (hB2.mono HI.out.2.size)
              have HO := Lib.hid (out_2 HI.out.1 hlt HP.out HN.out hck)
              have l2 : (bs (twoS c)).size = 2 := rfl
              have l3 : (bs (twoS 255)).size = 2 := rfl
              clear tc hB2 HI HN
              go_wp2_with fail
              refine tk.mono ?_
              rintro e w3 ⟨rfl, hB3⟩
              have HB3 : Hid (Below w.heap.size w w3) := HB2.out.trans (hB3.mono HB2.out.size)
              clear tk hB3 HB2
              go_wp2_with fail
              exact ⟨⟨256, _, [44], by omega, by go_num, rfl, rfl, by simp, by simp [twoS, bs_size]; omega, (show _ ∧ _ from ⟨HO.out, HB3.out⟩)⟩, by simp [intOf]; omega⟩
            · obtain rfl : c = 255 := by omega
              go_wp2_with fail
              refine tc.mono ?_
              rintro e w2 ⟨rfl, hB2⟩
              have HB2 : Hid (Below w.heap.size w w2) := HI.out.2.trans (hB2.mono HI.out.2.size)
              have HO := Lib.hid (out_1 HI.out.1 hlt HP.out HN.out)
              have l2 : (bs (twoS 255)).size = 2 := rfl
              clear tc hB2 HI HN
              go_wp2_with fail
              exact ⟨⟨256, _, [44], by omega, by go_num, rfl, rfl, by simp, by simp [twoS, bs_size]; omega, (show _ ∧ _ from ⟨HO.out, HB2.out⟩)⟩, by simp [intOf]⟩
    · obtain rfl : c = 256 := by omega
      have HF : Hid (rangesF p 0 [] = out ∧ Below w.heap.size w wr) := ⟨by rw [HI.out.1, rangesF_end (by omega), List.append_nil], HI.out.2⟩
      clear HI hlt
      go_wp2_with fail
      go_ret
      exact ⟨by rw [setT_F, HF.out.1]; rfl, HF.out.2⟩
end Go.Proofs.YtlekfdkahlobiaaGreatDoor.Re
