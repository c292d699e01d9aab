/- The reference's Text, of any node. -/
import Derived.Deep.DeepCutAuto
import Derived.Deep.RegionHeld3
import Derived.Test.YtlekfdkahlobiaaGreatDoorGText
namespace Go.Proofs.YtlekfdkahlobiaaGreatDoor.Re
open Go.RowKit

/-- A node's kids, by their numbers. -/
theorem node_open {T : Nat} {w : World} {v : Value} {k : Nat} {p : UInt8 → Bool} {m n : Int} {l : List Nd} (h : NodeAt T w v ⟨k, p, m, n, l⟩) :
    ∃ b ka cap, v = ptr b ∧ BlkAt T w b k p m n (.slice ka l.length cap) ∧ (l.length ≤ cap ∧ cap ≤ 9223372036854775807) ∧ ∀ (i : Nat) (x : Nd), l[i]? = some x → ∃ kb off u, ka = some ⟨kb, off, none⟩ ∧ w.cell? ⟨kb, off + i, none⟩ = some u ∧ NodeAt T w u x := by
  rw [NodeAt] at h
  obtain ⟨b, kv, rfl, hB, hk⟩ := h
  rcases hk with ⟨rfl, rfl⟩ | ⟨kb, off, cap, rfl, h2, h3⟩
  · exact ⟨b, none, 0, rfl, hB, ⟨Nat.le_refl _, by decide⟩, fun i x hx => by simp at hx⟩
  · refine ⟨b, _, cap, rfl, hB, h2, fun i x hx => ?_⟩
    obtain ⟨u, h4, h5⟩ := kid_at h3 i x hx
    exact ⟨kb, off, u, rfl, by rw [Nat.zero_add] at h4; exact h4, h5⟩
theorem wf_open {k : Nat} {p : UInt8 → Bool} {m n : Int} {l : List Nd} (h : (⟨k, p, m, n, l⟩ : Nd).wf = true) : k ≤ 6 ∧ (0 ≤ m ∧ m ≤ 255 ∧ -1 ≤ n ∧ n ≤ 255) ∧ (k = 6 → l.length = 1) ∧ (k < 4 → l = []) ∧ ∀ x ∈ l, x.wf = true := by
  rw [Nd.wf] at h
  simp only [Bool.and_eq_true, Bool.or_eq_true, decide_eq_true_eq, List.isEmpty_iff] at h
  obtain ⟨⟨⟨⟨h1, h2⟩, h3⟩, h4⟩, h5⟩ := h
  refine ⟨h1, h2, fun e => ?_, fun e => ?_, wfs_iff.1 h5⟩
  · rcases h3 with h3 | h3
    · exact absurd e h3
    · exact h3
  · rcases h4 with h4 | h4
    · omega
    · exact h4
theorem sizes_mem : ∀ {l : List Nd} {x : Nd}, x ∈ l → x.size ≤ Nd.size.sizes l
  | y :: l, x, h => by
    rw [Nd.size.sizes]
    rcases List.mem_cons.1 h with rfl | h
    · omega
    · have := sizes_mem h; omega
theorem sizes_le (k : Nat) (p : UInt8 → Bool) (m n : Int) (l : List Nd) : Nd.size.sizes l + 1 ≤ (⟨k, p, m, n, l⟩ : Nd).size := by
  rw [Nd.size]
  split
  · have : Nd.size.sizes l * 1 ≤ Nd.size.sizes l * max 1 (if n < 0 then m else n).toNat := Nat.mul_le_mul_left _ (Nat.le_max_left _ _)
    omega
  · omega
theorem deeps_mem : ∀ {l : List Nd} {x : Nd}, x ∈ l → x.deep ≤ Nd.deep.deeps l
  | y :: l, x, h => by
    rw [Nd.deep.deeps]
    rcases List.mem_cons.1 h with rfl | h
    · omega
    · have := deeps_mem h; omega
theorem below_then2 {w u u' : World} (h : Below w.heap.size w u) (h2 : Below u.heap.size u u') : Below w.heap.size w u' := h.trans (h2.mono h.size)
theorem ba_ext2 {a b : ByteArray} (h : a.data.toList = b.data.toList) : a = b := by
  cases a; cases b; congr; exact Array.toList_inj.1 h
theorem data_app2 (a b : ByteArray) : (a ++ b).data.toList = a.data.toList ++ b.data.toList := by
  rw [ByteArray.data_append, Array.toList_append]
def TextC (x : Nd) : Prop := ∀ (v : Value) (w : World), NodeAt 57 w v x → Calls Tryz.prog 10 #[v] w fun e w' => e = .returned (.string (bs x.text)) ∧ Below w.heap.size w w'
theorem texts_drop (S : List UInt8) : ∀ (l : List Nd) (i : Nat) (x : Nd), l[i]? = some x → Nd.text.texts S (decide (i = 0)) (l.drop i) = (if i = 0 then [] else S) ++ x.text ++ Nd.text.texts S false (l.drop (i + 1)) := by
  intro l i x h
  obtain ⟨hi, hx⟩ := List.getElem?_eq_some_iff.1 h
  rw [List.drop_eq_getElem_cons hi, hx, Nd.text.texts]
  simp only [decide_eq_true_eq, List.append_assoc]
def sepOf (k i : Nat) : List UInt8 := if i = 0 then [] else if k = 5 then [124] else []

set_option maxHeartbeats 4000000 in
set_option maxRecDepth 100000 in
theorem text_list (k : Nat) (hk : k = 4 ∨ k = 5) (p : UInt8 → Bool) (m n : Int) (l : List Nd) (v : Value) (w : World) (hlen : (⟨k, p, m, n, l⟩ : Nd).text.length ≤ 60000000) (ih : ∀ x ∈ l, TextC x) (h : NodeAt 57 w v ⟨k, p, m, n, l⟩) :
    Calls Tryz.prog 10 #[v] w fun e w' => e = .returned (.string (bs (⟨k, p, m, n, l⟩ : Nd).text)) ∧ Below w.heap.size w w' := by
  obtain ⟨b, ka, cap, rfl, hB, hcap, hkid⟩ := node_open h
  have ht : (⟨k, p, m, n, l⟩ : Nd).text = 40 :: (Nd.text.texts (if k = 5 then [124] else []) true l ++ [41]) := by
    rw [Nd.text]
    rcases hk with rfl | rfl <;> rfl
  rw [ht] at hlen ⊢
  have HC : Hid (∀ u, Below w.heap.size w u → u.cell? ⟨b, 0, none⟩ = some (.int .i64 (k : Int)) ∧ u.cell? ⟨b, 259, none⟩ = some (.slice ka l.length cap)) := fun u hu =>
    ⟨(hu.cell (p := ⟨b, 0, none⟩) (h_lt hB)).trans (h_cell hB 0 (ndC_0 _ _ _ _ _)), (hu.cell (p := ⟨b, 259, none⟩) (h_lt hB)).trans (h_cell hB 259 (ndC_kv _ _ _ _ _))⟩
  have HK := Lib.hid hkid
  have HI := Lib.hid ih
  have HL : Hid ((Nd.text.texts (if k = 5 then [124] else []) true l).length ≤ 60000000) := by
    show _ ≤ _
    simp only [List.length_cons, List.length_append, List.length_nil] at hlen
    omega
  obtain ⟨c0, c259⟩ := HC.out w (Below.refl _ _)
  clear hB hkid ih h ht hlen
  have HE : Hid (∀ (i : Nat) (out : List UInt8) (x : Nd), l[i]? = some x → Nd.text.texts (if k = 5 then [124] else []) true l = out ++ Nd.text.texts (if k = 5 then [124] else []) (decide (i = 0)) (l.drop i) → Nd.text.texts (if k = 5 then [124] else []) true l = (out ++ sepOf k i ++ x.text) ++ Nd.text.texts (if k = 5 then [124] else []) (decide (i + 1 = 0)) (l.drop (i + 1))) := fun i out x hx ho => by
    rw [ho, texts_drop _ l i x hx]
    simp [sepOf]
  have hsep : ∀ i, (sepOf k i).length ≤ 1 := fun i => by unfold sepOf; split; simp; split <;> simp
  have hS1 : ∀ i, k = 4 → sepOf k i = [] := fun i hk => by unfold sepOf; rw [hk]; split <;> rfl
  have hS0 : sepOf k 0 = [] := rfl
  have hS2 : ∀ i, k = 5 → sepOf k (i + 1) = [124] := fun i hk => by unfold sepOf; rw [hk]; rfl
  have HZ : Hid (∀ b, Nd.text.texts (if k = 5 then [124] else []) b [] = []) := fun b => by rw [Nd.text.texts]
  generalize Nd.text.texts (if k = 5 then [124] else []) = F at HL HE HZ ⊢
  generalize sepOf k = P at HE hsep hS1 hS0 hS2
  have HP := Lib.hid (And.intro hS1 hS2)
  clear hS1 hS2
  rcases hk with rfl | rfl
  all_goals
    go_enter Tryz.func10, Tryz.ntmps10
    go_wp2_with fail
    go_loopw [3, 4, 7] (fun vs vp vi wr => ∃ (i : Nat) (out : List UInt8), i ≤ l.length ∧ vi = .int .i64 i ∧ vs = .string ⟨out.toArray⟩ ∧ vp = .string ⟨(P i).toArray⟩ ∧ out.length ≤ 60000000 ∧ Hid (F true l = out ++ F (decide (i = 0)) (l.drop i) ∧ Below w.heap.size w wr)) (fun _ _ vi _ => l.length - (intOf vi).toNat)
    case atStart => exact ⟨0, [], by omega, rfl, rfl, by rw [hS0], by simp, (show _ ∧ _ from ⟨by simp, Below.refl _ _⟩)⟩
    case round =>
      obtain ⟨i, out, hi, rfl, rfl, rfl, hout, HO⟩ := hrel
      obtain ⟨c0', c259'⟩ := HC.out wr HO.out.2
      by_cases hlt : i < l.length
      · obtain ⟨x, hx⟩ : ∃ x, l[i]? = some x := ⟨_, List.getElem?_eq_getElem hlt⟩
        obtain ⟨kb, off, u, rfl, hu, hN⟩ := HK.out i x hx
        have hcu := (HO.out.2.cell (World.block_lt_of_cell? w _ hu)).trans hu
        have tx := HI.out x (List.mem_of_getElem? hx) u wr (hN.below HO.out.2)
        have HF := Lib.hid (HE.out i out x hx HO.out.1)
        have hl1 : out.length + (P i).length + x.text.length ≤ 60000000 := by
          have h1 := HL.out
          rw [HF.out] at h1
          simp only [List.length_append] at h1
          omega
        have hPi := hsep i
        have hb1 : (bs x.text).size = x.text.length := rfl
        obtain ⟨ub, rfl, _⟩ := hN.ptr
        clear hN hu hx HK
        go_wp2_with fail
        refine tx.mono ?_
        rintro e w2 ⟨rfl, hB2⟩
        have HB2 : Hid (Below w.heap.size w w2) := HO.out.2.trans (hB2.mono HO.out.2.size)
        obtain ⟨c0'', c259''⟩ := HC.out w2 HB2.out
        clear tx hB2
        go_wp2_with fail
        exact ⟨⟨i + 1, out ++ P i ++ x.text, by omega, by go_num, rfl, by first | (rw [HP.out.2 i (by decide)]) | (rw [HP.out.1 i (by decide), HP.out.1 (i + 1) (by decide)]), by simp only [List.length_append]; omega, (show _ ∧ _ from ⟨HF.out, HB2.out⟩)⟩, by simp [intOf]; omega⟩
      · obtain rfl : i = l.length := by omega
        have HF : Hid (F true l = out) := by
          show _ = _
          rw [HO.out.1, List.drop_length, HZ.out, List.append_nil]
        go_wp2_with fail
        go_ret
        exact ⟨by rw [HF.out]; rfl, HO.out.2⟩

set_option maxHeartbeats 1000000 in
set_option maxRecDepth 100000 in
theorem text_small (k : Nat) (hk : k = 0 ∨ k = 2 ∨ k = 3) (p : UInt8 → Bool) (m n : Int) (l : List Nd) (b : Nat) (w : World) (c0 : w.cell? ⟨b, 0, none⟩ = some (.int .i64 (k : Int))) :
    Calls Tryz.prog 10 #[ptr b] w fun e w' => e = .returned (.string (bs (⟨k, p, m, n, l⟩ : Nd).text)) ∧ Below w.heap.size w w' := by
  rcases hk with rfl | rfl | rfl
  all_goals
    rw [Nd.text]
    go_enter Tryz.func10, Tryz.ntmps10
    go_wp2_with fail
    go_ret
    exact ⟨rfl, Below.refl _ _⟩
set_option maxHeartbeats 4000000 in
set_option maxRecDepth 100000 in
theorem text_rep1 (p : UInt8 → Bool) (m n : Int) (x : Nd) (v : Value) (w : World) (hm : 0 ≤ m ∧ m ≤ 255) (hn : -1 ≤ n ∧ n ≤ 255) (hlen : x.text.length ≤ 60000000) (ih : TextC x) (h : NodeAt 57 w v ⟨6, p, m, n, [x]⟩) :
    Calls Tryz.prog 10 #[v] w fun e w' => e = .returned (.string (bs (⟨6, p, m, n, [x]⟩ : Nd).text)) ∧ Below w.heap.size w w' := by
  obtain ⟨b, ka, cap, rfl, hB, hcap, hkid⟩ := node_open h
  obtain ⟨kb, off, u, rfl, hu, hN⟩ := hkid 0 x rfl
  obtain ⟨M, rfl⟩ : ∃ M : Nat, m = (M : Int) := ⟨m.toNat, by omega⟩
  have HC : Hid (∀ u, Below w.heap.size w u → u.cell? ⟨b, 0, none⟩ = some (.int .i64 6) ∧ u.cell? ⟨b, 257, none⟩ = some (.int .i64 (M : Int)) ∧ u.cell? ⟨b, 258, none⟩ = some (.int .i64 n) ∧ u.cell? ⟨b, 259, none⟩ = some (.slice (some ⟨kb, off, none⟩) 1 cap)) := fun u hu =>
    ⟨(hu.cell (p := ⟨b, 0, none⟩) (h_lt hB)).trans (h_cell hB 0 (ndC_0 _ _ _ _ _)), (hu.cell (p := ⟨b, 257, none⟩) (h_lt hB)).trans (h_cell hB 257 (ndC_m _ _ _ _ _)), (hu.cell (p := ⟨b, 258, none⟩) (h_lt hB)).trans (h_cell hB 258 (ndC_n _ _ _ _ _)), (hu.cell (p := ⟨b, 259, none⟩) (h_lt hB)).trans (h_cell hB 259 (ndC_kv _ _ _ _ _))⟩
  have HU : Hid (∀ u', Below w.heap.size w u' → u'.cell? ⟨kb, off + 0, none⟩ = some u) := fun u' hu' => (hu'.cell (World.block_lt_of_cell? w _ hu)).trans hu
  obtain ⟨ub, rfl, _⟩ := hN.ptr
  have HT : Hid (∀ u', Below w.heap.size w u' → Calls Tryz.prog 10 #[ptr ub] u' fun e w' => e = .returned (.string (bs x.text)) ∧ Below u'.heap.size u' w') := fun u' hu' => ih _ u' (hN.below hu')
  have ht : (⟨6, p, (M : Int), n, [x]⟩ : Nd).text = x.text ++ 123 :: dgB 10 M ++ 44 :: (if n < 0 then [] else digL 10 n) ++ [125] := by
    rw [Nd.text]
    simp [Nd.text.texts, digL]
  have HTx : Hid (bs (⟨6, p, (M : Int), n, [x]⟩ : Nd).text = bs x.text ++ ⟨#[123]⟩ ++ ⟨(dgB 10 M).toArray⟩ ++ ⟨#[44]⟩ ++ ⟨(if n < 0 then [] else digL 10 n).toArray⟩ ++ ⟨#[125]⟩) := by
    show _ = _
    rw [ht]
    exact ba_ext2 (by simp only [data_app2, bs]; simp)
  have b1 : (bs x.text).size ≤ 60000000 := hlen
  have b2 : (⟨(dgB 10 M).toArray⟩ : ByteArray).size ≤ 3 := dig_len M (by omega)
  have HDg := Lib.hid (fun u => refDig10P M (by omega) u)
  generalize bs (⟨6, p, (M : Int), n, [x]⟩ : Nd).text = R at HTx ⊢
  generalize bs x.text = X at b1 HTx HT
  generalize (⟨(dgB 10 M).toArray⟩ : ByteArray) = Dg at b2 HTx HDg
  have q1 : ∀ u, (Op.stringOp .add X ⟨#[123]⟩).run Tryz.prog u = .ok (.string (X ++ ⟨#[123]⟩)) u := fun u => run_string_add_sum u _ _ (by show X.size + 1 ≤ _; omega)
  have q2 : ∀ u, (Op.stringOp .add (X ++ ⟨#[123]⟩) Dg).run Tryz.prog u = .ok (.string (X ++ ⟨#[123]⟩ ++ Dg)) u := fun u => run_string_add_sum u _ _ (by rw [ByteArray.size_append]; show X.size + 1 + _ ≤ _; omega)
  have q3 : ∀ u, (Op.stringOp .add (X ++ ⟨#[123]⟩ ++ Dg) ⟨#[44]⟩).run Tryz.prog u = .ok (.string (X ++ ⟨#[123]⟩ ++ Dg ++ ⟨#[44]⟩)) u := fun u => run_string_add_sum u _ _ (by rw [ByteArray.size_append, ByteArray.size_append]; show X.size + 1 + _ + 1 ≤ _; omega)
  have HB12 := Lib.hid (And.intro b1 b2)
  clear ht hkid hN h hB hu ih b1 b2 hlen hcap
  obtain ⟨c0, c257, c258, c259⟩ := HC.out w (Below.refl _ _)
  have cu : w.cell? ⟨kb, off, none⟩ = some (ptr ub) := HU.out w (Below.refl _ _)
  go_enter Tryz.func10, Tryz.ntmps10
  have KK : ∀ w', Below w.heap.size w w' → w'.cell? ⟨b, 257, none⟩ = some (.int .i64 (M : Int)) ∧ w'.cell? ⟨b, 259, none⟩ = some (.slice (some ⟨kb, off, none⟩) 1 cap) ∧ w'.cell? ⟨kb, off, none⟩ = some (ptr ub) := fun w' h => ⟨(HC.out w' h).2.1, (HC.out w' h).2.2.2, HU.out w' h⟩
  go_upto_region 25 with fail
  go_cut [3] (fun v3 wx => v3 = .string (X ++ ⟨#[123]⟩ ++ Dg ++ ⟨#[44]⟩) ∧ Hid (Below w.heap.size w wx))
  case first =>
    go_region_held3 (fun w' => w'.cell? ⟨b, 257, none⟩ = some (.int .i64 (M : Int)) ∧ w'.cell? ⟨b, 259, none⟩ = some (.slice (some ⟨kb, off, none⟩) 1 cap) ∧ w'.cell? ⟨kb, off, none⟩ = some (ptr ub)) (exact KK _ (by repeat (first | with_reducible exact Below.refl _ _ | with_reducible exact hBw2 | with_reducible exact hBw3 | with_reducible refine below_drew ?_))) (first
      | (go_at_call 10; refine (HT.out _ (by repeat (first | with_reducible exact Below.refl _ _ | with_reducible exact hBw3 | with_reducible refine below_drew ?_))).mono ?_; rintro e w2 ⟨rfl, hB2⟩; have hBw2 : Below w.heap.size w w2 := below_then2 (by repeat (first | with_reducible exact Below.refl _ _ | with_reducible exact hBw3 | with_reducible refine below_drew ?_)) hB2; clear hB2)
      | (go_at_call 23; refine (HDg.out _).mono ?_; rintro e w3 ⟨rfl, hB3⟩; have hBw3 : Below w.heap.size w w3 := below_then2 (by repeat (first | with_reducible exact Below.refl _ _ | with_reducible exact hBw2 | with_reducible refine below_drew ?_)) hB3; clear hB3))
    all_goals
      go_wp2_with fail
      go_meet
      exact ⟨rfl, (by repeat (first | with_reducible exact Below.refl _ _ | with_reducible exact hBw2 | with_reducible exact hBw3 | with_reducible refine below_drew ?_) : Below w.heap.size w _)⟩
  case rest =>
    obtain ⟨rfl, HBc⟩ := hcut
    obtain ⟨c0, c257, c258, c259⟩ := HC.out wc HBc.out
    have zY : (X ++ ⟨#[123]⟩ ++ Dg ++ ⟨#[44]⟩).size ≤ 60000005 := by
      rw [ByteArray.size_append, ByteArray.size_append, ByteArray.size_append]
      show X.size + 1 + _ + 1 ≤ _
      have := HB12.out
      omega
    by_cases hn0 : n < 0
    · rw [if_pos hn0] at HTx
      have hd : ¬ 0 ≤ n := by omega
      generalize X ++ ⟨#[123]⟩ ++ Dg ++ ⟨#[44]⟩ = Y at zY HTx ⊢
      go_wp2_with fail
      go_ret
      refine ⟨?_, HBc.out⟩
      rw [HTx.out, show Y ++ (⟨([] : List UInt8).toArray⟩ : ByteArray) = Y from ba_ext2 (by rw [data_app2]; simp)]
      rfl
    · rw [if_neg hn0] at HTx
      obtain ⟨N, rfl⟩ : ∃ N : Nat, n = (N : Int) := ⟨n.toNat, by omega⟩
      have dn := refDig10P N (by omega) wc
      have b3 : (⟨(dgB 10 N).toArray⟩ : ByteArray).size ≤ 3 := dig_len N (by omega)
      have HTy : Hid (R = X ++ ⟨#[123]⟩ ++ Dg ++ ⟨#[44]⟩ ++ ⟨(dgB 10 N).toArray⟩ ++ ⟨#[125]⟩) := by
        show _ = _
        rw [HTx.out, digL, if_neg (by omega), Int.natAbs_natCast]
      clear HTx
      generalize (⟨(dgB 10 N).toArray⟩ : ByteArray) = Dn at dn b3 HTy
      generalize X ++ ⟨#[123]⟩ ++ Dg ++ ⟨#[44]⟩ = Y at zY HTy ⊢
      go_wp2_with fail
      refine dn.mono ?_
      rintro e w4 ⟨rfl, hB4⟩
      have HB4 : Hid (Below w.heap.size w w4) := HBc.out.trans (hB4.mono HBc.out.size)
      clear dn hB4
      go_wp2_with fail
      go_ret
      exact ⟨by rw [HTy.out]; rfl, HB4.out⟩
/-- The reference's Text tells a node as the document says. -/
theorem text_ref : ∀ (d : Nat) (x : Nd), x.deep ≤ d → x.wf = true → x.size ≤ 30000 → TextC x
  | 0, x, h, _, _ => by cases x; rw [Nd.deep] at h; omega
  | d + 1, ⟨k, p, m, n, l⟩, h, hw, hz => by
    obtain ⟨hk, hmn, h6, h4, hwl⟩ := wf_open hw
    have hs := sizes_le k p m n l
    have hd : Nd.deep.deeps l ≤ d := by rw [Nd.deep] at h; omega
    have ih : ∀ x ∈ l, TextC x := fun x hx => text_ref d x (Nat.le_trans (deeps_mem hx) hd) (hwl x hx) (by have := sizes_mem hx; omega)
    have hlen : (⟨k, p, m, n, l⟩ : Nd).text.length ≤ 60000000 := by have := text_len _ hw; omega
    intro v w hN
    by_cases k4 : k = 4 ∨ k = 5
    · exact text_list k k4 p m n l v w hlen ih hN
    by_cases k6 : k = 6
    · subst k6
      obtain ⟨x, rfl⟩ := List.length_eq_one_iff.1 (h6 rfl)
      have hx : x.text.length ≤ 60000000 := by
        have := text_len x (hwl x (by simp))
        have h2 := sizes_mem (l := [x]) (x := x) (by simp)
        omega
      exact text_rep1 p m n x v w ⟨hmn.1, hmn.2.1⟩ hmn.2.2 hx (ih x (by simp)) hN
    obtain ⟨b, ka, cap, rfl, hB, _, _⟩ := node_open hN
    by_cases k1 : k = 1
    · subst k1
      have := set_text b p m n _ w hB
      exact this
    have c0 := h_cell hB 0 (ndC_0 _ _ _ _ _)
    exact text_small k (by omega) p m n l b w c0
end Go.Proofs.YtlekfdkahlobiaaGreatDoor.Re
