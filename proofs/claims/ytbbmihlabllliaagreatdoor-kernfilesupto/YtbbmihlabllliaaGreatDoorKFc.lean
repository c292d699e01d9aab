/- Writes, Reads and Close of the descriptor that has the file. -/
import Derived.Test.YtbbmihlabllliaaGreatDoorKFb
namespace Go.Proofs.YtbbmihlabllliaaGreatDoor
open Go.RowKit Go.Shelf Go.Maps

/-- What a Write leaves. -/
structure WrF (w0 : World) (F : FF) (w : World) (u N : Nat) (last : Int) (D : DataW Value) (bs : List UInt8) (dv : Value) (e : Nat) (how : Int) (cs : List UInt8) (m u' : Nat) (g : Int) (dv' : Value) (place' : Int) (w' : World) : Prop where
  op : Op w0 F w' u' N last D (bs ++ cs.take m) dv' e how place'
  pl : (how = 2 ∧ place' = ((bs ++ cs.take m).length : Nat)) ∨ how = 3
  ml : m ≤ cs.length
  uu : u ≤ u'
  gg : g = 0 ∨ g = 9
  mv : u' = u → 1 ≤ m
  blk : dv'.ownBlock = dv.ownBlock ∨ ∃ b, dv'.ownBlock = some b ∧ w.heap.size ≤ b
  tn : Turn (F.k :: F.n :: e :: dv.ownBlock.toList) w w'
section
variable {w0 : World} {F : FF} {w w' : World} {u N : Nat} {last : Int} {D : DataW Value} {holds : Int} {hs : Array Value} {bs : List UInt8} {dv : Value} {e : Nat} {how place : Int}
theorem op_write (h : Op w0 F w u N last D bs dv e how place) (hw : (how = 2 ∧ place = bs.length) ∨ how = 3) (b o c : Nat) (cs : List UInt8) (h0 : 0 < cs.length) (hc : cs.length ≤ c) (hbig : bs.length + cs.length ≤ 8192) (hb : b < w0.heap.size) (hcell : ∀ j, j < cs.length → w.cell? ⟨b, o + j, none⟩ = some (.int .u8 ((cs[j]?.getD 0).toNat : Int))) :
    Calls Tryz.prog 13 #[ptr F.t0, .int .i64 0, .slice (some ⟨b, o, none⟩) cs.length c] w fun r w' => ∃ m u' g dv' place', r = .returned (.tuple #[.int .i64 (m : Nat), .int .i64 g]) ∧ WrF w0 F w u N last D bs dv e how cs m u' g dv' place' w' := by
  have hok := h.st.ok
  have hB0 := hok.B0
  have hk0 := hok.k0
  have hbk : b ≠ F.k := by omega
  have hroom := room_x F.k e bs.length w (by omega) (op_place h hw)
  have hwr := isW_fi e 1 last 2 how place w h.hf (by rcases hw with ⟨rfl, _⟩ | rfl <;> decide)
  refine twrite_c F.t0 F.k 0 (hsF e) 191 e _ _ w h.st.T0 (by decide) rfl ?_
  have hq : ∀ q, Op w0 F (w.drewN q) u N last D bs dv e how place := fun q => h.same ((Turn.refl _ w).drewN q)
  have hgo : ∀ (n u' : Nat), 0 < n → n ≤ cs.length → u ≤ u' → (∀ q, Calls Tryz.prog 103 #[ptr F.k, .int .i64 (min cs.length (8192 - bs.length) : Nat), .bool true] (w.drewN q) fun r w' => r = .returned (.tuple #[.int .i64 n, .int .i64 0]) ∧ (Op w0 F w' u' N last D bs dv e how place ∧ Turn [F.k] w w')) →
      Calls Tryz.prog 51 #[ptr F.k, iFi e, .slice (some ⟨b, o, none⟩) cs.length c] w fun r w' => ∃ (v1 h : Int), r = .returned (.tuple #[.int .i64 v1, .int .i64 h]) ∧ ∃ m u' g dv' place', r = .returned (.tuple #[.int .i64 (m : Nat), .int .i64 g]) ∧ WrF w0 F w u N last D bs dv e how cs m u' g dv' place' w' := fun n u' hn1 hn2 huu hbf => by
    refine (write_ok F.k (iFi e) ⟨b, o, none⟩ cs.length c (8192 - bs.length) n (fun w1 => Op w0 F w1 u' N last D bs dv e how place ∧ Turn [F.k] w w1) (fun w2 => ∃ dv', Op w0 F w2 u' N last D (bs ++ cs.take n) dv' e how ((bs.length : Int) + (n : Int)) ∧ (dv'.ownBlock = dv.ownBlock ∨ ∃ b, dv'.ownBlock = some b ∧ w.heap.size ≤ b) ∧ Turn (F.k :: F.n :: e :: dv.ownBlock.toList) w w2) w h0 hc hn2 hwr hroom hbf ?_).mono ?_
    · rintro w1 ⟨h1, hU1⟩
      refine (op_give h1 hw b o n c (cs.take n) (by rw [List.length_take]; omega) hn1 (by omega) (by omega) (by omega) (fun j hj => ?_)).mono ?_
      · rw [List.getElem?_take, if_pos hj]
        exact hU1.cell (hcell j (by omega)) (by simpa using hbk)
      · rintro r w2 ⟨hx, v', hst, hbl, hU2⟩
        refine ⟨hx, v', hst, hbl.imp id ?_, (hU1.mono (by simp)).trans (hU2.mono (fun x hx => List.mem_cons_of_mem _ hx))⟩
        rintro ⟨b', e1, e2⟩
        exact ⟨b', e1, Nat.le_trans hU1.size e2⟩
    · rintro r w' ⟨rfl, v', hst, hbl, hU⟩
      refine ⟨n, 0, rfl, n, u', 0, v', _, rfl, hst, ?_, hn2, huu, .inl rfl, fun _ => hn1, hbl, hU⟩
      rcases hw with ⟨rfl, _⟩ | rfl
      · refine .inl ⟨rfl, ?_⟩
        rw [List.length_append, List.length_take, Nat.min_eq_left hn2]
        omega
      · exact .inr rfl
  by_cases hu : u = F.l.length
  · refine hgo (min cs.length (8192 - bs.length)) u (by omega) (by omega) (Nat.le_refl _) (fun q => ?_)
    refine (befall_none F.k F.fb F.th (ptr F.t) F.fv F.l 3 last _ true (w.drewN q) (by rw [← hu]; exact h.st.hK) (hq q).st.hFl).mono ?_
    rintro r w' ⟨rfl, n, rfl⟩
    exact ⟨rfl, (hq q).same ((Turn.refl _ _).drewN n), ((Turn.refl _ w).drewN q).trans ((Turn.refl _ _).drewN n)⟩
  · have hlt : u < F.l.length := by have := h.st.hu; omega
    rcases hok.kinds u hlt with hk | hk
    · obtain ⟨n, hn⟩ : ∃ n : Nat, min ((min cs.length (8192 - bs.length) : Nat) : Int) (max (F.l[u]?.getD (0, 0)).2 1) = n := ⟨(min ((min cs.length (8192 - bs.length) : Nat) : Int) (max (F.l[u]?.getD (0, 0)).2 1)).toNat, by omega⟩
      refine hgo n (u + 1) (by omega) (by omega) (by omega) (fun q => ?_)
      refine (befall_short F.k F.fb F.th u (ptr F.t) F.fv F.l 3 last _ true (w.drewN q) h.st.hK (hq q).st.hFl hlt hk).mono ?_
      rintro r w' ⟨rfl, hK, hU⟩
      exact ⟨by rw [hn], (hq q).kern (by simpa using hK) hU hlt, ((Turn.refl _ w).drewN q).trans hU⟩
    · refine (write_err F.k (iFi e) (some ⟨b, o, none⟩) cs.length c (8192 - bs.length) 0 9 (fun w1 => Op w0 F w1 (u + 1) N last D bs dv e how place ∧ Turn [F.k] w w1) w h0 (by decide) hwr hroom (fun q => ?_)).mono ?_
      · refine (befall_intr F.k F.fb F.th u (ptr F.t) F.fv F.l 3 last _ true (w.drewN q) h.st.hK (hq q).st.hFl hlt hk).mono ?_
        rintro r w' ⟨rfl, hK, hU⟩
        exact ⟨rfl, (hq q).kern (by simpa using hK) hU hlt, ((Turn.refl _ w).drewN q).trans hU⟩
      · rintro r w' ⟨rfl, h1, hU1⟩
        exact ⟨0, 9, rfl, 0, u + 1, 9, dv, place, rfl, by simpa using h1, by simpa using hw, Nat.zero_le _, by omega, .inr rfl, fun e => by omega, .inl rfl, hU1.mono (by simp)⟩

/-- The tree's Read of the file. -/
theorem st_data (h : St w0 F w u N last D holds hs bs dv) (p : Nat) (most : Int) (hp : p ≤ bs.length) (hm : 0 < most) (hbig : bs.length ≤ 8192) :
    Calls Tryz.prog 143 #[.pointer (some ⟨F.t, 0, none⟩), .int .i64 2, .int .i64 p, .int .i64 most] w fun r w' => ∃ a c, ∃ m : Nat, r = .returned (.slice a m c) ∧ (m : Int) = min most ((bs.length : Int) - (p : Int)) ∧ w'.ownsRow w.heap.size 5 1 (.slice a m c) m (u8s ((bs.drop p).take m)) ∧ Below w.heap.size w w' := by
  obtain ⟨a, cap, hdv⟩ := h.dslice
  by_cases hlt : p < bs.length
  · obtain ⟨kk, hkk⟩ : ∃ kk : Nat, min most ((bs.length : Int) - (p : Int)) = kk := ⟨(min most ((bs.length : Int) - (p : Int))).toNat, by omega⟩
    have hd := h.hd
    rw [hdv] at hd
    refine (read_part F.t F.n F.fm 1 _ 2 (F.nd dv holds) a bs.length cap F.B p kk most (u8s bs) _ _ _ w h.hT h.hF (by decide) h.look h.hn hdv hd (u8s_one bs) (by omega) hlt hm hkk).mono ?_
    rintro r w' ⟨v', rfl, h1, h2⟩
    have e1 : ((u8s bs).drop p).take kk = u8s ((bs.drop p).take kk) := by simp [u8s]
    rw [e1] at h1
    obtain ⟨a', c', rfl⟩ : ∃ a' c', v' = .slice a' kk c' := by
      rcases (row_split h1).2 with ⟨rfl, h0⟩ | ⟨g, cap, rfl, _⟩
      · exact ⟨_, _, by rw [h0]⟩
      · exact ⟨_, _, rfl⟩
    exact ⟨a', c', kk, rfl, hkk.symm, h1, h2⟩
  · obtain rfl : p = bs.length := by omega
    refine (read_past F.t F.n F.fm 1 _ 2 most (F.nd dv holds) a bs.length cap _ _ _ w h.hT h.hF (by decide) h.look h.hn hdv hm).mono ?_
    rintro r w' ⟨rfl, rfl⟩
    exact ⟨none, 0, 0, rfl, by omega, by simpa [u8s] using World.ownsRow_nil _ _ _ _, Below.refl _ _⟩

set_option maxRecDepth 100000 in
set_option maxHeartbeats 4000000 in
theorem op_take (p : Nat) (h : Op w0 F w u N last D bs dv e 1 p) (most : Int) (hp : p ≤ bs.length) (hm : 0 < most) (hbig : bs.length ≤ 8192) :
    Calls Tryz.prog 106 #[ptr F.k, iFi e, .int .i64 most] w fun r w' => ∃ v, r = .returned v ∧ ∃ m : Nat, (m : Int) = min most ((bs.length : Int) - (p : Int)) ∧ w'.ownsRow w.heap.size 5 1 v m (u8s ((bs.drop p).take m)) ∧ Op w0 F w' u N last D bs dv e 1 ((p + m : Nat) : Int) ∧ Turn [e] w w' := by
  have k0 := h_cell h.st.hK 0 rfl
  have f2 := h_cell h.hf 2 rfl
  have f4 := h_cell h.hf 4 rfl
  have hfl := h_lt h.hf
  have eB := h.eB
  have hen := h_ne h.hf (show w.heap[F.n]? = _ from h.st.hn) (by decide)
  have hde := h.st.dne h.hf (by decide)
  have t0 := ta_fi_so
  have t1 := ta_fi_re
  have t2 := ta_fi_fi
  have HR : Hid (∀ q, Calls Tryz.prog 143 #[.pointer (some ⟨F.t, 0, none⟩), .int .i64 2, .int .i64 p, .int .i64 most] (w.drewN q) fun r w' => ∃ a c, ∃ m : Nat, r = .returned (.slice a m c) ∧ (m : Int) = min most ((bs.length : Int) - (p : Int)) ∧ w'.ownsRow w.heap.size 5 1 (.slice a m c) m (u8s ((bs.drop p).take m)) ∧ FiAt w' e 1 last 2 1 p ∧ Below w.heap.size w w') := fun q => by
    refine (st_data (h.st.turn (S := []) ((Turn.refl _ w).drewN q) (by simp)) p most hp hm hbig).mono ?_
    rintro r w' ⟨a, c, m, rfl, h1, h2, h3⟩
    have hB : Below w.heap.size w w' := ⟨h3.os, h3.tape, h3.output, h3.size, h3.block⟩
    exact ⟨a, c, m, rfl, h1, h2, (hB.block e hfl).trans h.hf, hB⟩
  have hr0 := HR.out 0
  have hr1 := HR.out 1
  have HH := Lib.hid h
  clear HR h
  go_enter Tryz.func106, Tryz.ntmps106
  go_wp2_with fail
  go_region_with (first
    | (go_at_call 143; refine hr1.mono ?_; rintro r w2 ⟨a, c, m, rfl, hmm, ho, hf2, hB⟩; have hmb : (m : Int) ≤ 8192 := (by omega); have HM := Lib.hid hmm; clear hmm; have g4 := h_cell hf2 4 rfl; have z4 := h_fz hf2 4)
    | (go_at_call 143; refine hr0.mono ?_; rintro r w2 ⟨a, c, m, rfl, hmm, ho, hf2, hB⟩; have hmb : (m : Int) ≤ 8192 := (by omega); have HM := Lib.hid hmm; clear hmm; have g4 := h_cell hf2 4 rfl; have z4 := h_fz hf2 4))
  all_goals
    have HX := Lib.hid (And.intro ho (And.intro hf2 hB))
    clear ho hf2 hB
    go_wp2_with fail
    go_ret
  all_goals
    obtain ⟨ho, hf2, hB⟩ := HX.out
    have hUs : Turn [e] w2 (w2.setCell ⟨e, 4, none⟩ (.int .i64 ((p : Int) + (m : Int)))) := Turn.set w2 e 4 _ (by simp)
    have hU : Turn [e] w (w2.setCell ⟨e, 4, none⟩ (.int .i64 ((p : Int) + (m : Int)))) := (Turn.below hB).trans hUs
    have hge : ∀ g, (Value.slice a m c).ownBlock = some g → w.heap.size ≤ g := fun g hg => own_ge ho hg
    refine ⟨_, rfl, m, HM.out, own_turn ho hUs (fun g hg e1 => by have := hge g hg; simp at e1; omega), ⟨HH.out.st.turn hU (fun x hx => by simp at hx; subst hx; exact ⟨eB, hen, hde⟩), ?_, eB⟩, hU⟩
    have := h_set hf2 4 (.int .i64 ((p : Int) + (m : Int)))
    rw [show ((p + m : Nat) : Int) = (p : Int) + (m : Int) by omega]
    simpa using this

/-- What a Read leaves. -/
structure RdF (w0 : World) (F : FF) (w : World) (u N : Nat) (last : Int) (D : DataW Value) (bs : List UInt8) (dv : Value) (e p : Nat) (most : Int) (m u' : Nat) (hh : Int) (v1 : Value) (w' : World) : Prop where
  op : Op w0 F w' u' N last D bs dv e 1 ((p + m : Nat) : Int)
  out : w'.ownsRow w.heap.size 5 1 v1 m (u8s ((bs.drop p).take m))
  ml : (m : Int) ≤ most
  mb : p + m ≤ bs.length
  uu : u ≤ u'
  hh : hh = 0 ∨ hh = 9
  mv : u' = u → p = bs.length ∨ 1 ≤ m
  tn : Turn [F.k, e] w w'
theorem op_read (p : Nat) (h : Op w0 F w u N last D bs dv e 1 p) (most : Int) (hp : p ≤ bs.length) (hm : 1 ≤ most) (hbig : bs.length ≤ 8192) :
    Calls Tryz.prog 14 #[ptr F.t0, .int .i64 0, .int .i64 most] w fun r w' => ∃ m u' hh v1, r = .returned (.tuple #[v1, .int .i64 hh]) ∧ RdF w0 F w u N last D bs dv e p most m u' hh v1 w' := by
  have hok := h.st.ok
  refine tread_c F.t0 F.k 0 (hsF e) 191 e most _ w h.st.T0 (by decide) rfl ?_
  have hmay := mayRead_fi e 1 last 2 1 p most w h.hf hm (by decide) (by decide)
  have hgo : ∀ (n : Int) (u' : Nat), 0 < n → n ≤ most → u ≤ u' → (Calls Tryz.prog 103 #[ptr F.k, .int .i64 most, .bool false] w fun r w' => r = .returned (.tuple #[.int .i64 n, .int .i64 0]) ∧ (Op w0 F w' u' N last D bs dv e 1 p ∧ Turn [F.k] w w')) →
      Calls Tryz.prog 52 #[ptr F.k, iFi e, .int .i64 most] w fun r w' => ∃ v1 hh, r = .returned (.tuple #[v1, .int .i64 hh]) ∧ ∃ m u' hh v1, r = .returned (.tuple #[v1, .int .i64 hh]) ∧ RdF w0 F w u N last D bs dv e p most m u' hh v1 w' := fun n u' hn1 hn2 huu hbf => by
    refine (read_ok F.k (iFi e) most n (fun w1 => Op w0 F w1 u' N last D bs dv e 1 p ∧ Turn [F.k] w w1) (fun v w2 => ∃ m : Nat, (m : Int) = min n ((bs.length : Int) - (p : Int)) ∧ w2.ownsRow w.heap.size 5 1 v m (u8s ((bs.drop p).take m)) ∧ Op w0 F w2 u' N last D bs dv e 1 ((p + m : Nat) : Int) ∧ Turn [F.k, e] w w2) w hmay hbf ?_).mono ?_
    · rintro w1 ⟨h1, hU1⟩
      refine (op_take p h1 n hp hn1 hbig).mono ?_
      rintro r w2 ⟨v, rfl, m, hmm, ho, hop, hU2⟩
      refine ⟨v, rfl, m, hmm, ⟨ho.1, ?_⟩, hop, (hU1.mono (by simp)).trans (hU2.mono (by simp))⟩
      rcases ho.2 with hz | ⟨g, cap, cur, e1, hb, rest⟩
      · exact .inl hz
      · exact .inr ⟨g, cap, cur, e1, Nat.le_trans hU1.size hb, rest⟩
    · rintro r w' ⟨v, rfl, m, hmm, ho, hop, hU⟩
      exact ⟨v, 0, rfl, m, u', 0, v, rfl, hop, ho, by omega, by omega, huu, .inl rfl, fun _ => by omega, hU⟩
  by_cases hu : u = F.l.length
  · refine hgo most u (by omega) (Int.le_refl _) (Nat.le_refl _) ?_
    refine (befall_none F.k F.fb F.th (ptr F.t) F.fv F.l 3 last most false w (by rw [← hu]; exact h.st.hK) h.st.hFl).mono ?_
    rintro r w' ⟨rfl, n, rfl⟩
    exact ⟨rfl, h.same ((Turn.refl _ _).drewN n), (Turn.refl _ _).drewN n⟩
  · have hlt : u < F.l.length := by have := h.st.hu; omega
    rcases hok.kinds u hlt with hk | hk
    · refine hgo (min most (max (F.l[u]?.getD (0, 0)).2 1)) (u + 1) (by omega) (by omega) (by omega) ?_
      refine (befall_short F.k F.fb F.th u (ptr F.t) F.fv F.l 3 last most false w h.st.hK h.st.hFl hlt hk).mono ?_
      rintro r w' ⟨rfl, hK, hU⟩
      exact ⟨rfl, h.kern (by simpa using hK) hU hlt, hU⟩
    · refine (read_err F.k (iFi e) most 0 9 (fun w1 => Op w0 F w1 (u + 1) N last D bs dv e 1 p ∧ Turn [F.k] w w1) w (by decide) hmay ?_).mono ?_
      · refine (befall_intr F.k F.fb F.th u (ptr F.t) F.fv F.l 3 last most false w h.st.hK h.st.hFl hlt hk).mono ?_
        rintro r w' ⟨rfl, hK, hU⟩
        exact ⟨rfl, h.kern (by simpa using hK) hU hlt, hU⟩
      · rintro r w' ⟨rfl, h1, hU1⟩
        exact ⟨_, 9, rfl, 0, u + 1, 9, _, rfl, by simpa using h1, by simpa [u8s] using World.ownsRow_nil _ _ _ _, by omega, by omega, by omega, .inr rfl, fun e => by omega, hU1.mono (by simp)⟩

set_option maxRecDepth 100000 in
set_option maxHeartbeats 4000000 in
theorem leave_fi (w1 : World) (h : Op w0 F w u N last D bs dv e how place) (hl0 : (Lit.int .i64 last).wf = true) (hw1 : w1 = w.setCell ⟨F.t0, 1 + 0, none⟩ .nilIface) :
    Calls Tryz.prog 100 #[ptr F.k, iFi e] w1 fun r w' => (∃ v, r = .returned v) ∧ St w0 F w' u N last ((D.put (ik last) (.held (iFi e))).del (ik last)) 0 nilsF bs dv ∧ Turn [F.t0, e, F.n, F.th] w w' := by
  have ok := h.st.ok
  have hU1 : Turn [F.t0] w w1 := by rw [hw1]; exact Turn.set w F.t0 _ _ (by simp)
  have hT1 : TbAt w1 F.t0 F.k nilsF := by rw [hw1]; exact tb_set h.st.T0 0 .nilIface
  have a1 := h_ne h.hf h.st.T0 (by decide)
  have hf1 : FiAt w1 e 1 last 2 how place := hU1.ob h.hf (by simpa using a1)
  have b1 := h_ne h.st.hK h.st.T0 (by decide)
  have b2 := h_ne (show w.heap[F.t]? = _ from h.st.hT) h.st.T0 (by decide)
  have b3 := h_ne (show w.heap[F.rt]? = _ from h.st.hN) h.st.T0 (by decide)
  have b4 := h_ne (show w.heap[F.n]? = _ from h.st.hn) h.st.T0 (by decide)
  have b5 := mapi_ne h.st.hM h.st.T0
  have b6 := mapi_ne h.st.hE h.st.T0
  have b7 := mapi_ne h.st.hF h.st.T0
  have b8 := h_ne h.st.hp h.st.T0 (by decide)
  have c1 := ok.f0
  have hcl : w1.cell? ⟨e, 0, none⟩ = some (.int .i64 1) := h_cell hf1 0 rfl
  have hlo := lose_c e 1 w1 hcl (h_fz hf1 0) (by decide) (by decide)
  -- behind lose
  obtain ⟨w2, hw2⟩ : ∃ w2, w2 = w1.setCell ⟨e, 0, none⟩ (.int .i64 (1 - 1)) := ⟨_, rfl⟩
  have hU2 : Turn [F.t0, e] w w2 := by rw [hw2]; exact (hU1.mono (by simp)).trans (Turn.set w1 e 0 _ (by simp))
  have hU12 : Turn [e] w1 w2 := by rw [hw2]; exact Turn.set w1 e 0 _ (by simp)
  have hf2 : FiAt w2 e 0 last 2 how place := by rw [hw2]; simpa using h_set hf1 0 (.int .i64 (1 - 1))
  have eB := h.eB
  have n1 := ok.n1
  have t01 := ok.t01
  have d1 := h_ne h.st.hK h.hf (by decide)
  have d2 := h_ne (show w.heap[F.t]? = _ from h.st.hT) h.hf (by decide)
  have d3 := h_ne (show w.heap[F.n]? = _ from h.st.hn) h.hf (by decide)
  have d4 := mapi_ne h.st.hM h.hf
  have d5 := mapi_ne h.st.hF h.hf
  have hK2 := hU2.ob h.st.hK (by simp; omega)
  have hM2 := hU2.map h.st.hM (by simp; omega)
  have hT2 := hU2.tr h.st.hT (by simp; omega)
  have hF2 := hU2.map h.st.hF (by simp; omega)
  have hn2 := hU2.nd h.st.hn (by simp; omega)
  have hTb2 : TbAt w2 F.t0 F.k nilsF := hU12.ob hT1 (by simpa using fun e1 => a1 e1.symm)
  have HD : Hid (∀ q, Calls Tryz.prog 139 #[.pointer (some ⟨F.t, 0, none⟩), .int .i64 2] (w2.drewN q) fun r w' => (∃ v, r = .returned v) ∧ NdAt w' F.n (F.nd dv 0) ∧ Turn [F.n] w2 w') := fun q => by
    refine (drop_linked F.t F.n F.fm 1 _ 2 (F.nd dv 1) _ _ _ (w2.drewN q) hT2 hF2 (by decide) h.st.look hn2 rfl (show (1 : Int) ≠ 0 by decide) (show (1 : Int) ≤ 1 by decide) (show (1 : Int) < 4611686018427387904 by decide)).mono ?_
    rintro r w' ⟨hx, h1, h2⟩
    exact ⟨hx, h1, ⟨h2.os, h2.tape, h2.output, h2.size, h2.block⟩⟩
  have hd0 := HD.out 0
  have hd1 := HD.out 1
  have t3 := ta_fi_fi
  have hn := nil_eq
  have hm := m_lose_fi
  have k0 := h_cell hK2 0 rfl
  have f2 := h_cell hf2 2 rfl
  have HH := Lib.hid h
  have H2 := Lib.hid (And.intro hU2 (And.intro hTb2 (And.intro hK2 (And.intro hM2 hf2))))
  clear h hU1 hT1 hf1 hcl hU2 hU12 hf2 hK2 hM2 hT2 hF2 hn2 hTb2 HD
  clear hw1
  go_enter Tryz.func100, Tryz.ntmps100
  go_wp2_with (go_at_call 235; refine hlo.mono ?_; rintro r w3 ⟨rfl, hw3⟩; rw [← hw2] at hw3; rw [hw3]; clear hw3 hw2)
  go_region_with (first
    | (go_at_call 139; refine hd1.mono ?_; rintro r w4 ⟨⟨x4, rfl⟩, hn4, hU4⟩)
    | (go_at_call 139; refine hd0.mono ?_; rintro r w4 ⟨⟨x4, rfl⟩, hn4, hU4⟩))
  all_goals
    obtain ⟨hU2, hTb2, hK2, hM2, hf2⟩ := H2.out
    have h := HH.out
    have e1 : F.n ≠ F.th := fun e1 => by have := ok.th1; omega
    have hK4 := hU4.ob hK2 (by simp; have := ok.k1; omega)
    have hM4 := hU4.map hM2 (by simpa using fun e2 => e1 e2.symm)
    have hf4 := hU4.ob hf2 (by simpa using fun e2 => d3 e2.symm)
    have hTb4 := hU4.ob hTb2 (by simp; omega)
    obtain ⟨w5, hrun, hown, hturn⟩ := (World.ownsMap.drew hM4).drop keyed3 underT (key := .int .i64 last) (keyOf_int_mk Tryz.underlying3 hl0) 0
    have hgrow := hturn.grown
    have hU5 : Turn [F.th] w4 w5 := ⟨hgrow.os, hgrow.tape, hgrow.output, hgrow.size, fun k hk hn => hgrow.block k hk (by simpa using hn)⟩
    have k4 := h_cell hK4 4 rfl
    have f1 := h_cell hf4 1 rfl
    have HX := Lib.hid (And.intro hn4 (And.intro hTb4 (And.intro hK4 (And.intro hown (And.intro hU5 (And.intro hU2 hU4))))))
    clear hn4 hTb4 hK4 hown hU5 hU2 hU4 hgrow hturn hTb2 hK2 hM2 hf2 hM4 hf4 h H2
    go_wp2_with fail
    go_region
    go_wp2_with fail
    go_end0
  all_goals
    obtain ⟨hn4, hTb4, hK4, hown, hU5, hU2, hU4⟩ := HX.out
    have h := HH.out
    have hU : Turn [F.t0, e, F.n, F.th] w w5 := ((hU2.mono (by simp)).trans (hU4.mono (by simp))).trans (hU5.mono (by simp))
    have q1 := mapi_ne h.st.hM h.st.hK
    have q2 := mapi_ne h.st.hM (show w.heap[F.t]? = _ from h.st.hT)
    have q3 := mapi_ne h.st.hM (show w.heap[F.rt]? = _ from h.st.hN)
    have q4 := mapi_ne h.st.hM h.st.hp
    have q5 := mapi_ne h.st.hM h.st.T0
    have r3 := h_ne (show w.heap[F.rt]? = _ from h.st.hN) h.hf (by decide)
    have r4 := mapi_ne h.st.hE h.hf
    have g1 := ok.k1
    have g2 := ok.th1
    have g3 := ok.fb1
    have g4 := ok.t1
    have g5 := ok.rt1
    have g6 := ok.rm1
    have g7 := ok.fm1
    have g8 := ok.pb1
    have g9 := ok.tf
    have g10 := ok.tm
    have g11 := ok.ft
    have g12 := ok.B0
    have g13 := ok.t00
    have g14 := ok.th0
    have hst := h.st
    refine ⟨⟨_, rfl⟩, { hst with
      hK := hU.ob hst.hK (by simp; omega)
      hFl := hst.hFl.turn hU (by simp; omega)
      hM := hown
      hT := hU.tr hst.hT (by simp; omega)
      hN := hU.nd hst.hN (by simp; omega)
      hE := hU.map hst.hE (by simp; omega)
      hF := hU.map hst.hF (by simp; omega)
      hn := hU5.nd hn4 (by simp; omega)
      hd := own_turn hst.hd hU (fun g hg e2 => by
        have := own_ge hst.hd hg
        simp only [List.mem_cons, List.not_mem_nil, or_false] at e2
        rcases e2 with e2 | e2 | e2 | e2
        · omega
        · exact hst.dne h.hf (by decide) (by rw [← e2]; exact hg)
        · exact hst.dne (show w.heap[F.n]? = _ from hst.hn) (by decide) (by rw [← e2]; exact hg)
        · omega)
      T0 := hU5.ob hTb4 (by simp; omega)
      hp := hU.ob hst.hp (by simp; omega)
      hB := Nat.le_trans hst.hB hU.size
      bl := hst.bl.trans ⟨hU.os, hU.tape, hU.output, hU.size, fun x hx => hU.block x (by have := hst.bl.size; omega) (by simp; omega)⟩ }, hU⟩

theorem op_close (h : Op w0 F w u N last D bs dv e how place) (hl0 : (Lit.int .i64 last).wf = true) :
    Calls Tryz.prog 15 #[ptr F.t0, .int .i64 0] w fun r w' => r = .returned (.int .i64 0) ∧ St w0 F w' u N last ((D.put (ik last) (.held (iFi e))).del (ik last)) 0 nilsF bs dv ∧ Turn [F.t0, e, F.n, F.th] w w' :=
  close_any F.t0 F.k 0 (hsF e) 191 e _ w h.st.T0 (by decide) rfl (leave_fi _ h hl0 rfl)
end
end Go.Proofs.YtbbmihlabllliaaGreatDoor
