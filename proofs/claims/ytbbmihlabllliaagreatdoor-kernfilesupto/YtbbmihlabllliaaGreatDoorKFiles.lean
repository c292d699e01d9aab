/- The first Open; what stands between two rounds of the statement; the parts. -/
import Derived.Test.YtbbmihlabllliaaGreatDoorKFc
import Derived.Test.YtbbmihlabllliaaGreatDoorKFd
import Derived.Test.YtbbmihlabllliaaGreatDoorKBegunA
import Derived.Test.YtbbmihlabllliaaGreatDoorKPre
import Derived.Deep.CutBlock
namespace Go.Proofs.YtbbmihlabllliaaGreatDoor
open Go.RowKit Go.Shelf Go.Maps

/-- Nothing is open yet, and the tree has its root alone. -/
def Beg (w0 : World) (t0 pb : Nat) (l : List (Int × Int)) (w : World) : Prop :=
  ∃ M t rt rm fm k fb th fv x1 x2 x3 x4, Bs2 w0 M w t rt rm fm k fb th fv l 3 ∧ w.heap[pb]? = some (.cells #[ptr k, x1, ptr t0, x2, x3, x4] 48) ∧ TbAt w t0 k nilsF ∧ M ≤ t0 ∧ M ≤ pb
/-- The file stands, none has it open. -/
def Run (w0 : World) (t0 pb : Nat) (l : List (Int × Int)) (w : World) (i : Nat) (wv : Value) (bs : List UInt8) : Prop :=
  ∃ F u N last D dv, F.t0 = t0 ∧ F.pb = pb ∧ F.l = l ∧ St w0 F w u N last D 0 nilsF bs dv ∧ w.ownsRow F.B 5 1 wv bs.length (u8s bs) ∧ (∀ g, wv.ownBlock = some g → dv.ownBlock ≠ some g) ∧ N ≤ i ∧ last = (i : Int)
/-- It is open. -/
def Opn (w0 : World) (t0 pb : Nat) (l : List (Int × Int)) (w : World) (i : Nat) (how : Int) (wv : Value) (bs : List UInt8) : Prop :=
  ∃ F u N last D dv e, F.t0 = t0 ∧ F.pb = pb ∧ F.l = l ∧ Op w0 F w u N last D bs dv e how 0 ∧ w.ownsRow F.B 5 1 wv bs.length (u8s bs) ∧ (∀ g, wv.ownBlock = some g → dv.ownBlock ≠ some g) ∧ N ≤ i + 1 ∧ last = (i : Int) + 1
/-- What stands ahead of a round. -/
def Lst (w0 : World) (t0 pb : Nat) (l : List (Int × Int)) (w : World) (i : Nat) (wv : Value) (bs : List UInt8) : Prop :=
  (i = 0 ∧ Beg w0 t0 pb l w ∧ wv = .slice none 0 0 ∧ bs = []) ∨ (0 < i ∧ Run w0 t0 pb l w i wv bs)

theorem beg_open {w0 w : World} {t0 pb : Nat} {l : List (Int × Int)} (h : Beg w0 t0 pb l w) (hml : mild l l.length) (m : Int) (hm : w0.cell? ⟨0, 0, none⟩ = some (.int .i64 m)) :
    Calls Tryz.prog 16 #[ptr t0, .string sE, .string p_f, .int .i64 2] w fun r w' => r = .returned (.tuple #[.int .i64 0, .int .i64 0]) ∧ Opn w0 t0 pb l w' 0 2 (.slice none 0 0) [] := by
  obtain ⟨M, t, rt, rm, fm, k, fb, th, fv, x1, x2, x3, x4, hb, hp, hT0, hMt, hMp⟩ := h
  have hz0 : 0 < w0.heap.size := World.block_lt_of_cell? w0 _ hm
  have hmw : w.cell? ⟨0, 0, none⟩ = some (.int .i64 m) := (hb.bl.cell (p := ⟨0, 0, none⟩) hz0).trans hm
  refine (topen_x t0 k 2 p_f (fun _ w' => Opn w0 t0 pb l w' 0 2 (.slice none 0 0) []) w (by decide) hT0 ((open_f k th w0.heap.size t rt rm fm 0 mE fv 0 3 0 m w hmw hb.tr hb.hK hb.hM (by decide) (by decide) (by decide) ⟨hb.tf, hb.tm⟩).mono ?_)).mono (fun r w' h => by obtain ⟨_, h1, h2⟩ := h; exact ⟨h1, h2⟩)
  rintro r w2 ⟨e, n, md, rfl, ho, hU⟩
  have a1 := hb.k1
  have a2 := hb.th1
  have a3 := hb.t1
  have a4 := hb.fm1
  have a5 := hb.rm1
  have a6 := hb.fb1
  have a7 := hb.f3
  have a8 := hb.rt1
  have b1 := hb.fk
  have b2 := hb.ft
  have c1 := mapi_ne hb.tr.hF (show w.heap[rt]? = _ from hb.tr.hN)
  have c2 := mapi_ne hb.tr.hM (show w.heap[rt]? = _ from hb.tr.hN)
  have c3 := mapi_ne hb.hM (show w.heap[rt]? = _ from hb.tr.hN)
  have c4 := h_ne (show w.heap[rt]? = _ from hb.tr.hN) hb.hK (by decide)
  have c5 := h_ne (show w.heap[rt]? = _ from hb.tr.hN) (show w.heap[t]? = _ from hb.tr.hT) (by decide)
  have l1 := h_lt hT0
  have l2 := h_lt hp
  have l3 := h_lt hb.hK
  have l4 := hb.hM.lt
  have l5 := hb.tr.hT.lt
  have l6 := hb.tr.hN.lt
  have l7 := hb.tr.hM.lt
  have l8 := hb.tr.hF.lt
  have d1 := hb.tr.ht
  have d2 := hb.tr.hfm
  have d3 := hb.tr.hrm
  have d4 := hb.k0
  have d5 := hb.th0
  have d6 := hb.m0
  have he0 := ho.e0
  have hn0 := ho.n0
  have hT2 : TbAt w2 t0 k nilsF := hU.ob hT0 (by simp; omega)
  refine ⟨e, 0 + 1, rfl, ho.hf, hT2, fun w3 hf3 hT3 hU3 => ?_⟩
  have hok : FOk w0 ⟨k, t, rt, rm, fm, th, fb, t0, pb, n, w.heap.size, md, fv, x1, x2, x3, x4, l⟩ := ⟨l3, l4, l1, by show fb < w.heap.size; omega, l5, l6, l7, l8, l2, hn0, d4, d5, by show w0.heap.size ≤ t0; omega, by show w0.heap.size ≤ w.heap.size; omega, b1, b2, by show fb ≠ t0; omega, hb.tf, hb.tm, hml, hz0⟩
  have hst : St w0 ⟨k, t, rt, rm, fm, th, fb, t0, pb, n, w.heap.size, md, fv, x1, x2, x3, x4, l⟩ w2 0 (0 + 1) (0 + 1) (mE.put (ik (0 + 1)) (.held (iFi e))) 1 nilsF [] (.slice none 0 0) :=
    { ok := hok, hK := ho.hK, hFl := hb.hF.turn hU (by simp; omega), hM := ho.hM, hT := ho.hT, hN := hU.nd hb.tr.hN (by simp; omega), hE := ho.hE, hF := ho.hF, hn := ho.hn, hd := World.ownsRow_nil _ _ _ _, T0 := hT2, hp := hU.ob hp (by simp; omega), hu := Nat.zero_le _, hB := hU.size,
      bl := hb.bl.trans ⟨hU.os, hU.tape, hU.output, hU.size, fun x hx => hU.block x (by have := hb.bl.size; omega) (by simp; omega)⟩ }
  exact ⟨_, 0, 0 + 1, 0 + 1, mE, _, e, rfl, rfl, rfl, ⟨hst.tab ho.hf he0 hT3 hU3, hf3, he0⟩, World.ownsRow_nil _ _ _ _, by simp [Value.ownBlock], by omega, by omega⟩

theorem run_open {w0 w : World} {t0 pb : Nat} {l : List (Int × Int)} {i : Nat} {wv : Value} {bs : List UInt8} (h : Run w0 t0 pb l w i wv bs) (hi : i ≤ 100000) (m : Int) (hm : w0.cell? ⟨0, 0, none⟩ = some (.int .i64 m)) (p : ByteArray) (hp : p = p_f ∨ p = s_f) (how : Int) (hh : how = 1 ∨ how = 3) :
    Calls Tryz.prog 16 #[ptr t0, .string sE, .string p, .int .i64 how] w fun r w' => r = .returned (.tuple #[.int .i64 0, .int .i64 0]) ∧ Opn w0 t0 pb l w' i how wv bs := by
  obtain ⟨F, u, N, last, D, dv, rfl, rfl, rfl, hS, ho, hdj, hN, rfl⟩ := h
  have hre : Calls Tryz.prog 107 #[ptr F.k, .string sE, .string p, .int .i64 how] w fun r w' => r = .returned (.tuple #[stV F bs.length, .int .i64 0]) ∧ St w0 F w' u N i D 0 nilsF bs dv ∧ Turn [F.n] w w' := by
    have hd : Calls Tryz.prog 107 #[ptr F.k, .string sE, .string p, .int .i64 how] w fun r w' => r = .returned (.tuple #[stV F bs.length, .int .i64 0]) ∧ Turn [] w w' := by
      rcases hh with rfl | rfl
      · exact reach_1 hS m hm p hp
      · exact reach_3 hS m hm p hp
    refine hd.mono ?_
    rintro r w' ⟨rfl, hU⟩
    exact ⟨rfl, hS.turn hU (by simp), hU.mono (by simp)⟩
  refine (op_open how (by omega) bs.length bs dv p (by omega) (by omega) (by omega) hS.T0 hS.hB hre).mono ?_
  rintro r w' ⟨e, rfl, hop, he, hU⟩
  have k1 := hS.ok.k1
  have k2 := hS.ok.th1
  have k3 := hS.ok.t01
  refine ⟨rfl, F, u, N + 1, _, D, dv, e, rfl, rfl, rfl, hop, own_turn ho hU (fun g hg e1 => ?_), hdj, by omega, rfl⟩
  have := own_ge ho hg
  simp only [List.mem_cons, List.not_mem_nil, or_false] at e1
  rcases e1 with e1 | e1 | e1 | e1
  · exact row_ne ho (show w.heap[F.n]? = _ from hS.hn) (by decide) (by rw [← e1]; exact hg)
  · omega
  · omega
  · omega

theorem run_cut {w0 w : World} {t0 pb : Nat} {l : List (Int × Int)} {i : Nat} {wv : Value} {bs : List UInt8} (h : Run w0 t0 pb l w i wv bs) (hi : i ≤ 100000) (m : Int) (hm : w0.cell? ⟨0, 0, none⟩ = some (.int .i64 m)) :
    Calls Tryz.prog 16 #[ptr t0, .string sE, .string p_f, .int .i64 2] w fun r w' => r = .returned (.tuple #[.int .i64 0, .int .i64 0]) ∧ Opn w0 t0 pb l w' i 2 (.slice none 0 0) [] := by
  obtain ⟨F, u, N, last, D, dv, rfl, rfl, rfl, hS, ho, hdj, hN, rfl⟩ := h
  refine (op_open 2 (by omega) bs.length [] (.slice none 0 0) p_f (by omega) (by omega) (by omega) hS.T0 hS.hB (reach_2 hS m hm p_f (.inl rfl))).mono ?_
  rintro r w' ⟨e, rfl, hop, he, hU⟩
  exact ⟨rfl, F, u, N + 1, _, D, _, e, rfl, rfl, rfl, hop, World.ownsRow_nil _ _ _ _, by simp [Value.ownBlock], by omega, rfl⟩

/-- A round's Open. -/
theorem lst_open {w0 w : World} {t0 pb : Nat} {l : List (Int × Int)} {i : Nat} {wv : Value} {bs : List UInt8} (h : Lst w0 t0 pb l w i wv bs) (hml : mild l l.length) (hi : i ≤ 100000) (m : Int) (hm : w0.cell? ⟨0, 0, none⟩ = some (.int .i64 m)) (how : Int) (wv' : Value) (bs' : List UInt8)
    (hh : (how = 2 ∧ wv' = .slice none 0 0 ∧ bs' = []) ∨ (how = 3 ∧ i ≠ 0 ∧ wv' = wv ∧ bs' = bs)) :
    Calls Tryz.prog 16 #[ptr t0, .string sE, .string p_f, .int .i64 how] w fun r w' => r = .returned (.tuple #[.int .i64 0, .int .i64 0]) ∧ Opn w0 t0 pb l w' i how wv' bs' := by
  rcases h with ⟨rfl, hb, rfl, rfl⟩ | ⟨h0, hr⟩
  · rcases hh with ⟨rfl, rfl, rfl⟩ | ⟨_, h1, _⟩
    · exact beg_open hb hml m hm
    · exact absurd rfl h1
  · rcases hh with ⟨rfl, rfl, rfl⟩ | ⟨rfl, _, rfl, rfl⟩
    · exact run_cut hr hi m hm
    · exact run_open hr hi m hm p_f (.inl rfl) 3 (.inr rfl)

/-- Bytes of a part: in memory that was there before. -/
def Pv (B : Nat) (w : World) (v : Value) (bs : List UInt8) : Prop :=
  (v = .slice none 0 0 ∧ bs = []) ∨ ∃ a c, v = .slice (some a) bs.length c ∧ bs.length ≤ c ∧ (bs.length = 0 ∨ ∃ b o, a = ⟨b, o, none⟩ ∧ b < B ∧ ∀ j, j < bs.length → w.cell? ⟨b, o + j, none⟩ = some (.int .u8 ((bs[j]?.getD 0).toNat : Int)))
theorem Pv.below {B : Nat} {w w' : World} {v : Value} {bs : List UInt8} (h : Pv B w v bs) (hb : Below B w w') : Pv B w' v bs := by
  rcases h with h | ⟨a, c, hv, hc, h0 | ⟨b, o, ha, hB, hcell⟩⟩
  · exact .inl h
  · exact .inr ⟨a, c, hv, hc, .inl h0⟩
  · exact .inr ⟨a, c, hv, hc, .inr ⟨b, o, ha, hB, fun j hj => (hb.cell (p := ⟨b, o + j, none⟩) hB).trans (hcell j hj)⟩⟩
def Ps (B : Nat) (w : World) (v : Value) (ps : List (List UInt8)) : Prop :=
  ∃ a cap, v = .slice a ps.length cap ∧ (ps.length = 0 ∨ ∃ b o, a = some ⟨b, o, none⟩ ∧ b < B ∧ ∀ j, j < ps.length → ∃ v1, w.cell? ⟨b, o + j, none⟩ = some v1 ∧ Pv B w v1 (ps[j]?.getD []))
theorem Ps.below {B : Nat} {w w' : World} {v : Value} {ps : List (List UInt8)} (h : Ps B w v ps) (hb : Below B w w') : Ps B w' v ps := by
  obtain ⟨a, cap, hv, h0 | ⟨b, o, ha, hB, hc⟩⟩ := h
  · exact ⟨a, cap, hv, .inl h0⟩
  · refine ⟨a, cap, hv, .inr ⟨b, o, ha, hB, fun j hj => ?_⟩⟩
    obtain ⟨v1, h1, h2⟩ := hc j hj
    exact ⟨v1, (hb.cell (p := ⟨b, o + j, none⟩) hB).trans h1, h2.below hb⟩
/-- How many bytes the first parts have. -/
def upTo (ps : List (List UInt8)) : Nat → Nat
  | 0 => 0
  | n + 1 => upTo ps n + (ps[n]?.getD []).length
theorem upTo_mono (ps : List (List UInt8)) : ∀ {a b : Nat}, a ≤ b → upTo ps a ≤ upTo ps b
  | a, 0, h => by
    have : a = 0 := by omega
    rw [this]; exact Nat.le_refl _
  | a, b + 1, h => by
    by_cases e : a = b + 1
    · rw [e]; exact Nat.le_refl _
    · have := upTo_mono ps (a := a) (b := b) (by omega)
      simp only [upTo]; omega
theorem upTo_le (ps : List (List UInt8)) (K : Nat) (h : ∀ j : Nat, (ps[j]?.getD []).length ≤ K) : ∀ n, upTo ps n ≤ n * K
  | 0 => Nat.zero_le _
  | n + 1 => by have := upTo_le ps K h n; have := h n; simp only [upTo]; rw [Nat.add_mul]; omega
end Go.Proofs.YtbbmihlabllliaaGreatDoor
/- KernFiles, walked. -/
namespace Go.Proofs.YtbbmihlabllliaaGreatDoor
open Go.RowKit Go.Shelf Go.Maps

theorem Bs2.base {w0 wr : World} {M : Nat} {w : World} {t rt rm fm k fb th : Nat} {fv : Value} {l : List (Int × Int)} {now : Int} (h : Bs2 wr M w t rt rm fm k fb th fv l now) (hB : Below w0.heap.size w0 wr) : Bs2 w0 M w t rt rm fm k fb th fv l now := by
  have hz := hB.size
  have a1 := h.tr.ht
  have a2 := h.tr.hrt
  have a3 := h.tr.hrm
  have a4 := h.tr.hfm
  have a5 := h.k0
  have a6 := h.th0
  have a7 := h.m0
  have ht := h.tr
  exact { h with tr := { ht with ht := by omega, hrt := by omega, hrm := by omega, hfm := by omega }, k0 := by omega, th0 := by omega, m0 := by omega, bl := hB.trans (h.bl.mono hz) }

/-- What stands within the loop that writes. -/
structure Wl (w0 : World) (F : FF) (N : Nat) (last : Int) (D : DataW Value) (e : Nat) (how : Int) (bs cs : List UInt8) (wv : Value) (w : World) (n s u : Nat) (A : Option Addr) (cx : Nat) : Prop where
  op : ∃ dv place, Op w0 F w u N last D (bs ++ cs.take s) dv e how place ∧ ((how = 2 ∧ place = ((bs ++ cs.take s).length : Nat)) ∨ how = 3) ∧ (∀ g, wv.ownBlock = some g → dv.ownBlock ≠ some g)
  wo : w.ownsRow F.B 5 1 wv bs.length (u8s bs)
  sl : s ≤ cs.length
  ms : (cs.length - s) + (F.l.length - u) + n ≤ cs.length + F.l.length
  at_ : s < cs.length → ∃ b o, A = some ⟨b, o, none⟩ ∧ b < w0.heap.size ∧ cs.length - s ≤ cx ∧ ∀ j, j < cs.length - s → w.cell? ⟨b, o + j, none⟩ = some (.int .u8 ((cs[s + j]?.getD 0).toNat : Int))

theorem wl_write {w0 : World} {F : FF} {N : Nat} {last : Int} {D : DataW Value} {e : Nat} {how : Int} {bs cs : List UInt8} {wv : Value} {w : World} {n s u : Nat} {A : Option Addr} {cx : Nat} (h : Wl w0 F N last D e how bs cs wv w n s u A cx) (hs : s < cs.length) (hbig : bs.length + cs.length ≤ 8192) :
    Calls Tryz.prog 13 #[ptr F.t0, .int .i64 0, .slice A (cs.length - s) cx] w fun r w' => ∃ (m : Nat) (g : Int), r = .returned (.tuple #[.int .i64 m, .int .i64 g]) ∧ (g = 0 ∨ g = 9) ∧ m ≤ cs.length - s ∧ Hid (∃ u', ∀ A' cx', ((if cx = m then A else A.map fun a => ⟨a.block, a.off + m, none⟩) = A' ∧ cx' = cx - m) → Wl w0 F N last D e how bs cs wv w' (n + 1) (s + m) u' A' cx') := by
  obtain ⟨dv, place, hop, hpl, hdj⟩ := h.op
  obtain ⟨b, o, rfl, hb, hcx, hcell⟩ := h.at_ hs
  have hsl := h.sl
  have hms := h.ms
  have hwo := h.wo
  have hB0 := hop.st.ok.B0
  have hl : (cs.drop s).length = cs.length - s := List.length_drop
  have hbl : (bs ++ cs.take s).length = bs.length + s := by rw [List.length_append, List.length_take]; omega
  have hul := hop.st.hu
  have hw := op_write hop hpl b o cx (cs.drop s) (by omega) (by omega) (by omega) hb (fun j hj => by rw [List.getElem?_drop]; exact hcell j (by omega))
  rw [hl] at hw
  refine hw.mono ?_
  rintro r w' ⟨m, u', g, dv', place', rfl, hr⟩
  have hml := hr.ml
  have hmv := hr.mv
  have huu := hr.uu
  have hul' := hr.op.st.hu
  have e1 : bs ++ cs.take s ++ (cs.drop s).take m = bs ++ cs.take (s + m) := by rw [List.append_assoc, ← List.take_add]
  have hop' := hr.op
  rw [e1] at hop'
  have hpl' := hr.pl
  rw [e1] at hpl'
  refine ⟨m, g, rfl, hr.gg, by omega, u', fun A' cx' hA => ?_⟩
  have hwo' : ∀ g, wv.ownBlock = some g → g ∉ F.k :: F.n :: e :: dv.ownBlock.toList := fun g hg e2 => by
    have := own_ge hwo hg
    have := hop.st.ok.k1
    simp only [List.mem_cons] at e2
    rcases e2 with e2 | e2 | e2 | e2
    · omega
    · exact row_ne hwo (show w.heap[F.n]? = _ from hop.st.hn) (by decide) (by rw [← e2]; exact hg)
    · exact row_ne hwo hop.hf (by decide) (by rw [← e2]; exact hg)
    · exact hdj g hg (by simpa using e2)
  refine ⟨⟨dv', place', hop', hpl', fun g hg e2 => ?_⟩, own_turn hwo hr.tn hwo', by omega, by omega, fun hlt => ?_⟩
  · rcases hr.blk with hb | ⟨b', hb, hz⟩
    · exact hdj g hg (by rw [← hb]; exact e2)
    · rw [hb] at e2
      obtain rfl : b' = g := by simpa using e2
      have := own_lt hwo hg
      omega
  · obtain ⟨hA1, rfl⟩ := hA
    refine ⟨b, o + m, ?_, hb, by omega, fun j hj => ?_⟩
    · rw [← hA1]
      by_cases hc : cx = m
      · omega
      · rw [if_neg hc]; rfl
    · have hc := hr.tn.cell (hcell (m + j) (by omega)) (by
        have := hop.st.ok.k0
        have := hop.st.ok.n1
        have := hop.eB
        simp only [List.mem_cons, not_or]
        refine ⟨by show b ≠ F.k; omega, by show b ≠ F.n; omega, by show b ≠ e; omega, fun e2 => ?_⟩
        have := own_ge hop.st.hd (g := b) (by simpa using e2)
        omega)
      rw [show o + m + j = o + (m + j) by omega, show s + m + j = s + (m + j) by omega]
      exact hc

/-- What stands within the loop that reads. -/
structure Rl (w0 : World) (F : FF) (N : Nat) (last : Int) (D : DataW Value) (e : Nat) (bs : List UInt8) (wv gv : Value) (w : World) (n p u : Nat) : Prop where
  op : ∃ dv, Op w0 F w u N last D bs dv e 1 (p : Nat) ∧ (∀ g, wv.ownBlock = some g → dv.ownBlock ≠ some g) ∧ (∀ g, gv.ownBlock = some g → dv.ownBlock ≠ some g)
  wo : w.ownsRow F.B 5 1 wv bs.length (u8s bs)
  go : w.ownsRow F.B 5 1 gv p (u8s (bs.take p))
  dj : ∀ g, wv.ownBlock = some g → gv.ownBlock ≠ some g
  pl : p ≤ bs.length
  ms : (bs.length - p) + (F.l.length - u) + n ≤ bs.length + F.l.length + 1 ∨ p = bs.length
/-- .. behind its Read, ahead of the append. -/
structure Rm (w0 : World) (F : FF) (N : Nat) (last : Int) (D : DataW Value) (e : Nat) (bs : List UInt8) (wv gv v1 : Value) (w : World) (n p m u B1 : Nat) : Prop where
  op : ∃ dv, Op w0 F w u N last D bs dv e 1 ((p + m : Nat) : Int) ∧ (∀ g, wv.ownBlock = some g → dv.ownBlock ≠ some g) ∧ (∀ g, gv.ownBlock = some g → dv.ownBlock ≠ some g)
  wo : w.ownsRow F.B 5 1 wv bs.length (u8s bs)
  go : w.ownsRow F.B 5 1 gv p (u8s (bs.take p))
  dj : ∀ g, wv.ownBlock = some g → gv.ownBlock ≠ some g
  out : w.ownsRow B1 5 1 v1 m (u8s ((bs.drop p).take m))
  pl : p + m ≤ bs.length
  ms : (bs.length - (p + m)) + (F.l.length - u) + (n + 1) ≤ bs.length + F.l.length + 1 ∨ p + m = bs.length
theorem rl_read {w0 : World} {F : FF} {N : Nat} {last : Int} {D : DataW Value} {e : Nat} {bs : List UInt8} {wv gv : Value} {w : World} {n p u : Nat} (h : Rl w0 F N last D e bs wv gv w n p u) (most : Int) (hm : 1 ≤ most) (hbig : bs.length ≤ 8192) :
    Calls Tryz.prog 14 #[ptr F.t0, .int .i64 0, .int .i64 most] w fun r w' => ∃ (m u' : Nat) (hh : Int) (v1 : Value), r = .returned (.tuple #[v1, .int .i64 hh]) ∧ (hh = 0 ∨ hh = 9) ∧ (m : Int) ≤ most ∧ Rm w0 F N last D e bs wv gv v1 w' n p m u' w.heap.size := by
  obtain ⟨dv, hop, hdj1, hdj2⟩ := h.op
  have hpl := h.pl
  have hms := h.ms
  have hul := hop.st.hu
  refine (op_read p hop most hpl hm hbig).mono ?_
  rintro r w' ⟨m, u', hh, v1, rfl, hr⟩
  have hmv := hr.mv
  have huu := hr.uu
  have hmb := hr.mb
  have hul' := hr.op.st.hu
  have k1 := hop.st.ok.k1
  have hno : ∀ {v : Value} {n : Nat} {xs : List Value}, w.ownsRow F.B 5 1 v n xs → w'.ownsRow F.B 5 1 v n xs := fun ho => own_turn ho hr.tn (fun g hg e2 => by
    have := own_ge ho hg
    simp only [List.mem_cons, List.not_mem_nil, or_false] at e2
    rcases e2 with e2 | e2
    · omega
    · exact row_ne ho hop.hf (by decide) (by rw [← e2]; exact hg))
  exact ⟨m, u', hh, v1, rfl, hr.hh, hr.ml, ⟨dv, hr.op, hdj1, hdj2⟩, hno h.wo, hno h.go, h.dj, hr.out, hmb, by omega⟩
theorem Rm.app {w0 : World} {F : FF} {N : Nat} {last : Int} {D : DataW Value} {e : Nat} {bs : List UInt8} {wv gv v1 gv' : Value} {w w' : World} {n p m u B1 : Nat} (h : Rm w0 F N last D e bs wv gv v1 w n p m u B1) (hown : w'.ownsRow F.B 5 1 gv' (p + m) (u8s (bs.take (p + m)))) (hgrow : w.grownBy w' gv.ownBlock) (hat : gv'.ownBlock = gv.ownBlock ∨ gv'.ownBlock = some w.heap.size) : Rl w0 F N last D e bs wv gv' w' (n + 1) (p + m) u := by
  obtain ⟨dv, hop, hdj1, hdj2⟩ := h.op
  have hU : Turn gv.ownBlock.toList w w' := ⟨hgrow.os, hgrow.tape, hgrow.output, hgrow.size, fun j hj hs => hgrow.block j hj (fun e => hs (by rw [← e]; simp))⟩
  have hge : ∀ x, x ∈ gv.ownBlock.toList → F.B ≤ x ∧ x ≠ F.n ∧ dv.ownBlock ≠ some x := fun x hx => by
    have hx' : gv.ownBlock = some x := by simpa using hx
    exact ⟨own_ge h.go hx', fun e2 => row_ne h.go (show w.heap[F.n]? = _ from hop.st.hn) (by decide) (by rw [← e2]; exact hx'), hdj2 x hx'⟩
  have hnew : ∀ {v : Value} {k : Nat} {xs : List Value}, w.ownsRow F.B 5 1 v k xs → (∀ g, v.ownBlock = some g → gv.ownBlock ≠ some g) → ∀ g, gv'.ownBlock = some g → v.ownBlock ≠ some g := fun ho hd g hg e2 => by
    rcases hat with ha | ha
    · exact hd g e2 (by rw [← ha]; exact hg)
    · rw [ha] at hg
      obtain rfl : w.heap.size = g := by simpa using hg
      have := own_lt ho e2
      omega
  refine ⟨⟨dv, hop.turn hU hge (fun e2 => row_ne h.go hop.hf (by decide) (by simpa using e2)), hdj1, hnew hop.st.hd (fun g hg e2 => hdj2 g e2 hg)⟩, own_turn h.wo hU (fun g hg e2 => h.dj g hg (by simpa using e2)), hown, fun g hg e2 => hnew h.wo h.dj g e2 hg, h.pl, h.ms⟩
theorem Rm.none {w0 : World} {F : FF} {N : Nat} {last : Int} {D : DataW Value} {e : Nat} {bs : List UInt8} {wv gv v1 : Value} {w : World} {n p u B1 : Nat} (h : Rm w0 F N last D e bs wv gv v1 w n p 0 u B1) : Rl w0 F N last D e bs wv gv w (n + 1) p u := ⟨h.op, h.wo, h.go, h.dj, h.pl, h.ms⟩
/-- The append of what was written; then Close. -/
theorem wl_app {w0 : World} {F : FF} {N : Nat} {last : Int} {D : DataW Value} {e : Nat} {how : Int} {bs cs : List UInt8} {wv wv' : Value} {w w' : World} {n u : Nat} {A : Option Addr} {cx : Nat} (h : Wl w0 F N last D e how bs cs wv w n cs.length u A cx) (hown : w'.ownsRow F.B 5 1 wv' (bs ++ cs).length (u8s (bs ++ cs))) (hgrow : w.grownBy w' wv.ownBlock) (hat : wv'.ownBlock = wv.ownBlock ∨ wv'.ownBlock = some w.heap.size) :
    ∃ dv place, Op w0 F w' u N last D (bs ++ cs) dv e how place ∧ w'.ownsRow F.B 5 1 wv' (bs ++ cs).length (u8s (bs ++ cs)) ∧ ∀ g, wv'.ownBlock = some g → dv.ownBlock ≠ some g := by
  obtain ⟨dv, place, hop, _, hdj⟩ := h.op
  rw [List.take_length] at hop
  have hU : Turn wv.ownBlock.toList w w' := ⟨hgrow.os, hgrow.tape, hgrow.output, hgrow.size, fun j hj hs => hgrow.block j hj (fun e => hs (by rw [← e]; simp))⟩
  have hge : ∀ x, x ∈ wv.ownBlock.toList → F.B ≤ x ∧ x ≠ F.n ∧ dv.ownBlock ≠ some x := fun x hx => by
    have hx' : wv.ownBlock = some x := by simpa using hx
    exact ⟨own_ge h.wo hx', fun e2 => row_ne h.wo (show w.heap[F.n]? = _ from hop.st.hn) (by decide) (by rw [← e2]; exact hx'), hdj x hx'⟩
  refine ⟨dv, place, hop.turn hU hge (fun e2 => row_ne h.wo hop.hf (by decide) (by simpa using e2)), hown, fun g hg e2 => ?_⟩
  rcases hat with ha | ha
  · exact hdj g (by rw [← ha]; exact hg) e2
  · rw [ha] at hg
    obtain rfl : w.heap.size = g := by simpa using hg
    have := own_lt hop.st.hd e2
    omega
theorem fin_close {w0 : World} {F : FF} {w : World} {u N : Nat} {i : Nat} {D : DataW Value} {bs : List UInt8} {dv : Value} {e : Nat} {how place : Int} {wv : Value} (h : Op w0 F w u N ((i : Int) + 1) D bs dv e how place) (hi : i ≤ 100000) (ho : w.ownsRow F.B 5 1 wv bs.length (u8s bs)) (hdj : ∀ g, wv.ownBlock = some g → dv.ownBlock ≠ some g) (hN : N ≤ i + 1) :
    Calls Tryz.prog 15 #[ptr F.t0, .int .i64 0] w fun r w' => r = .returned (.int .i64 0) ∧ Run w0 F.t0 F.pb F.l w' (i + 1) wv bs := by
  refine (op_close h (WalkArith.wf_i64 (by omega))).mono ?_
  rintro r w' ⟨rfl, hS, hU⟩
  have k2 := h.st.ok.th1
  have k3 := h.st.ok.t01
  refine ⟨rfl, F, u, N, _, _, dv, rfl, rfl, rfl, hS, own_turn ho hU (fun g hg e1 => ?_), hdj, hN, by omega⟩
  have := own_ge ho hg
  simp only [List.mem_cons, List.not_mem_nil, or_false] at e1
  rcases e1 with e1 | e1 | e1 | e1
  · omega
  · exact row_ne ho h.hf (by decide) (by rw [← e1]; exact hg)
  · exact row_ne ho (show w.heap[F.n]? = _ from h.st.hn) (by decide) (by rw [← e1]; exact hg)
  · omega
end Go.Proofs.YtbbmihlabllliaaGreatDoor
