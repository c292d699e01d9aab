/- A file in the root between two calls: how it lies, how it is written and read. -/
import Derived.Test.YtbbmihlabllliaaGreatDoorKFa
import Derived.Test.YtbbmihlabllliaaGreatDoorKOpen3
namespace Go.Proofs.YtbbmihlabllliaaGreatDoor
open Go.RowKit Go.Shelf Go.Maps

abbrev nilsF : Array Value := #[.nilIface, .nilIface, .nilIface, .nilIface, .nilIface, .nilIface, .nilIface, .nilIface, .nilIface, .nilIface, .nilIface, .nilIface, .nilIface, .nilIface, .nilIface, .nilIface]
abbrev hsF (e : Nat) : Array Value := #[iFi e, .nilIface, .nilIface, .nilIface, .nilIface, .nilIface, .nilIface, .nilIface, .nilIface, .nilIface, .nilIface, .nilIface, .nilIface, .nilIface, .nilIface, .nilIface]
/-- Where all lies. -/
structure FF where
  k : Nat
  t : Nat
  rt : Nat
  rm : Nat
  fm : Nat
  th : Nat
  fb : Nat
  t0 : Nat
  pb : Nat
  n : Nat
  B : Nat
  md : Int
  fv : Value
  x1 : Value
  x2 : Value
  x3 : Value
  x4 : Value
  l : List (Int × Int)
abbrev FF.nd (F : FF) (dv : Value) (holds : Int) : Nd := ⟨2, F.md, 3, false, .pointer none, .map none, dv, 1, holds⟩
structure FOk (w0 : World) (F : FF) : Prop where
  k1 : F.k < F.B
  th1 : F.th < F.B
  t01 : F.t0 < F.B
  fb1 : F.fb < F.B
  t1 : F.t < F.B
  rt1 : F.rt < F.B
  rm1 : F.rm < F.B
  fm1 : F.fm < F.B
  pb1 : F.pb < F.B
  n1 : F.B ≤ F.n
  k0 : w0.heap.size ≤ F.k
  th0 : w0.heap.size ≤ F.th
  t00 : w0.heap.size ≤ F.t0
  B0 : w0.heap.size ≤ F.B
  fk : F.fb ≠ F.k
  ft : F.fb ≠ F.th
  f0 : F.fb ≠ F.t0
  tf : F.th ≠ F.fm
  tm : F.th ≠ F.rm
  kinds : ∀ j, j < F.l.length → (F.l[j]?.getD (0, 0)).1 = 1 ∨ (F.l[j]?.getD (0, 0)).1 = 2
  z : 0 < w0.heap.size
structure St (w0 : World) (F : FF) (w : World) (u N : Nat) (last : Int) (D : DataW Value) (holds : Int) (hs : Array Value) (bs : List UInt8) (dv : Value) : Prop where
  ok : FOk w0 F
  hK : KnAt w F.k (ptr F.t) F.fv u 3 F.th last
  hFl : Fl w F.fv F.fb F.l
  hM : w.ownsMap Tryz.prog 3 R F.th N D
  hT : TrAt w F.t (ptr F.rt) (.map (some F.fm)) (.int .i64 1) (.int .i64 2)
  hN : NdAt w F.rt (xr F.rt F.rm)
  hE : w.ownsMap Tryz.prog 9 R F.rm 1 (mE.put (sk s_f) (.held (ptr F.n)))
  hF : w.ownsMap Tryz.prog 3 R F.fm 1 (mE.put (ik 2) (.held (ptr F.n)))
  hn : NdAt w F.n (F.nd dv holds)
  hd : w.ownsRow F.B 5 1 dv bs.length (u8s bs)
  T0 : TbAt w F.t0 F.k hs
  hp : w.heap[F.pb]? = some (.cells #[ptr F.k, F.x1, ptr F.t0, F.x2, F.x3, F.x4] 48)
  hu : u ≤ F.l.length
  hB : F.B ≤ w.heap.size
  bl : Below w0.heap.size w0 w
/-- The file is open, by the descriptor 0. -/
structure Op (w0 : World) (F : FF) (w : World) (u N : Nat) (last : Int) (D : DataW Value) (bs : List UInt8) (dv : Value) (e : Nat) (how place : Int) : Prop where
  st : St w0 F w u N last (D.put (ik last) (.held (iFi e))) 1 (hsF e) bs dv
  hf : FiAt w e 1 last 2 how place
  eB : F.B ≤ e
section
variable {w0 : World} {F : FF} {w w' : World} {u N : Nat} {last : Int} {D : DataW Value} {holds : Int} {hs : Array Value} {bs : List UInt8} {dv : Value} {e : Nat} {how place : Int}
theorem St.dne (h : St w0 F w u N last D holds hs bs dv) {b T : Nat} {cs : Array Value} {fz : Nat × Nat} (hb : w.heap[b]? = some (.cells cs T fz)) (hT : T ≠ 5) : dv.ownBlock ≠ some b := row_ne h.hd hb hT
/-- What is turned has nothing of it. -/
theorem St.turn (h : St w0 F w u N last D holds hs bs dv) {S : List Nat} (hU : Turn S w w') (hS : ∀ x, x ∈ S → F.B ≤ x ∧ x ≠ F.n ∧ dv.ownBlock ≠ some x) : St w0 F w' u N last D holds hs bs dv := by
  have ok := h.ok
  have hno : ∀ x, x < F.B → x ∉ S := fun x hx e => by have := (hS x e).1; omega
  have hm := ok.B0
  exact { h with
    hK := hU.ob h.hK (hno _ ok.k1)
    hFl := h.hFl.turn hU (hno _ ok.fb1)
    hM := hU.map h.hM (hno _ ok.th1)
    hT := hU.tr h.hT (hno _ ok.t1)
    hN := hU.nd h.hN (hno _ ok.rt1)
    hE := hU.map h.hE (hno _ ok.rm1)
    hF := hU.map h.hF (hno _ ok.fm1)
    hn := hU.nd h.hn (fun e => (hS _ e).2.1 rfl)
    hd := own_turn h.hd hU (fun g hg e => (hS g e).2.2 hg)
    T0 := hU.ob h.T0 (hno _ ok.t01)
    hp := hU.ob h.hp (hno _ ok.pb1)
    hB := Nat.le_trans h.hB hU.size
    bl := h.bl.trans ⟨hU.os, hU.tape, hU.output, hU.size, fun x hx => hU.block x (by have := h.bl.size; omega) (hno x (by omega))⟩ }
theorem Op.turn (h : Op w0 F w u N last D bs dv e how place) {S : List Nat} (hU : Turn S w w') (hS : ∀ x, x ∈ S → F.B ≤ x ∧ x ≠ F.n ∧ dv.ownBlock ≠ some x) (he : e ∉ S) : Op w0 F w' u N last D bs dv e how place :=
  ⟨h.st.turn hU hS, hU.ob h.hf he, h.eB⟩
/-- The kernel alone has turned: a fault was used. -/
theorem St.kern (h : St w0 F w u N last D holds hs bs dv) {u' : Nat} (hK : KnAt w' F.k (ptr F.t) F.fv u' 3 F.th last) (hU : Turn [F.k] w w') (hu : u' ≤ F.l.length) : St w0 F w' u' N last D holds hs bs dv := by
  have ok := h.ok
  have hm := ok.B0
  have a1 := mapi_ne h.hM h.hK
  have a2 := h_ne (show w.heap[F.t]? = _ from h.hT) h.hK (by decide)
  have a3 := h_ne (show w.heap[F.rt]? = _ from h.hN) h.hK (by decide)
  have a4 := mapi_ne h.hE h.hK
  have a5 := mapi_ne h.hF h.hK
  have a6 := h_ne (show w.heap[F.n]? = _ from h.hn) h.hK (by decide)
  have a7 := h_ne h.T0 h.hK (by decide)
  have a8 := h_ne h.hp h.hK (by decide)
  have a9 := ok.fk
  have b1 := ok.k0
  have b2 := ok.k1
  exact { h with
    hK := hK
    hFl := h.hFl.turn hU (by simpa using a9)
    hM := hU.map h.hM (by simpa using a1)
    hT := hU.tr h.hT (by simpa using a2)
    hN := hU.nd h.hN (by simpa using a3)
    hE := hU.map h.hE (by simpa using a4)
    hF := hU.map h.hF (by simpa using a5)
    hn := hU.nd h.hn (by simpa using a6)
    hd := own_turn h.hd hU (fun g hg e => by have := own_ge h.hd hg; simp at e; omega)
    T0 := hU.ob h.T0 (by simpa using a7)
    hp := hU.ob h.hp (by simpa using a8)
    hu := hu
    hB := Nat.le_trans h.hB hU.size
    bl := h.bl.trans ⟨hU.os, hU.tape, hU.output, hU.size, fun x hx => hU.block x (by have := h.bl.size; omega) (by simp; omega)⟩ }
theorem Op.kern (h : Op w0 F w u N last D bs dv e how place) {u' : Nat} (hK : KnAt w' F.k (ptr F.t) F.fv u' 3 F.th last) (hU : Turn [F.k] w w') (hu : u' ≤ F.l.length) : Op w0 F w' u' N last D bs dv e how place :=
  ⟨h.st.kern hK hU hu, hU.ob h.hf (by simpa using h_ne h.hf h.st.hK (by decide)), h.eB⟩
theorem Op.same (h : Op w0 F w u N last D bs dv e how place) (hU : Turn [] w w') : Op w0 F w' u N last D bs dv e how place := h.turn hU (by simp) (by simp)
/-- The file alone has turned. -/
theorem Op.file (h : Op w0 F w u N last D bs dv e how place) {bs' : List UInt8} {dv' : Value} {place' : Int} (hn : NdAt w' F.n (F.nd dv' 1)) (hd : w'.ownsRow F.B 5 1 dv' bs'.length (u8s bs')) (hf : FiAt w' e 1 last 2 how place') (hU : Turn (F.n :: e :: dv.ownBlock.toList) w w') : Op w0 F w' u N last D bs' dv' e how place' := by
  have ok := h.st.ok
  have hm := ok.B0
  have n1 := ok.n1
  have eB := h.eB
  have hno : ∀ x, x < F.B → x ∉ F.n :: e :: dv.ownBlock.toList := fun x hx e => by
    rcases List.mem_cons.1 e with e | e
    · omega
    · rcases List.mem_cons.1 e with e | e
      · omega
      · have := own_ge h.st.hd (g := x) (by simpa using e)
        omega
  have h := h.st
  refine ⟨{ h with
    hK := hU.ob h.hK (hno _ ok.k1)
    hFl := h.hFl.turn hU (hno _ ok.fb1)
    hM := hU.map h.hM (hno _ ok.th1)
    hT := hU.tr h.hT (hno _ ok.t1)
    hN := hU.nd h.hN (hno _ ok.rt1)
    hE := hU.map h.hE (hno _ ok.rm1)
    hF := hU.map h.hF (hno _ ok.fm1)
    hn := hn
    hd := hd
    T0 := hU.ob h.T0 (hno _ ok.t01)
    hp := hU.ob h.hp (hno _ ok.pb1)
    hB := Nat.le_trans h.hB hU.size
    bl := h.bl.trans ⟨hU.os, hU.tape, hU.output, hU.size, fun x hx => hU.block x (by have := h.bl.size; omega) (hno x (by omega))⟩ }, hf, eB⟩

theorem St.dslice (h : St w0 F w u N last D holds hs bs dv) : ∃ a cap, dv = .slice a bs.length cap := by
  rcases (row_split h.hd).2 with ⟨rfl, h0⟩ | ⟨g, cap, rfl, _⟩
  · exact ⟨_, _, by rw [h0]⟩
  · exact ⟨_, _, rfl⟩
theorem St.look (_h : St w0 F w u N last D holds hs bs dv) : look (mE.put (ik 2) (.held (ptr F.n))) (ik 2) = ptr F.n := look_put_same isMap_E (isKey_i 2) _

set_option maxRecDepth 100000 in
set_option maxHeartbeats 2000000 in
theorem place2 (k e : Nat) (c num ino place : Int) (w : World) (hf : FiAt w e c num ino 2 place) : Calls Tryz.prog 140 #[ptr k, ptr e] w fun r w' => r = .returned (.int .i64 place) ∧ ∃ q, w' = w.drewN q := by
  have c3 := h_cell hf 3 rfl
  have c4 := h_cell hf 4 rfl
  clear hf
  go_enter Tryz.func140, Tryz.ntmps140
  go_wp2
  go_ret
  exact ⟨rfl, 0, rfl⟩
set_option maxRecDepth 100000 in
set_option maxHeartbeats 2000000 in
theorem place3 (k e t th : Nat) (c num ino place used now last L : Int) (fs : Value) (w : World) (hf : FiAt w e c num ino 3 place) (hK : KnAt w k (ptr t) fs used now th last) (hs : ∀ q, Calls Tryz.prog 169 #[.pointer (some ⟨t, 0, none⟩), .int .i64 ino] (w.drewN q) fun e w' => e = .returned (.int .i64 L) ∧ w' = w.drewN q) :
    Calls Tryz.prog 140 #[ptr k, ptr e] w fun r w' => r = .returned (.int .i64 L) ∧ ∃ q, w' = w.drewN q := by
  have c2 := h_cell hf 2 rfl
  have c3 := h_cell hf 3 rfl
  have k0 := h_cell hK 0 rfl
  have hs0 := hs 0
  have hs1 := hs 1
  clear hf hK hs
  go_enter Tryz.func140, Tryz.ntmps140
  go_wp2_with fail
  go_region_with (first
    | (go_at_call 169; refine hs1.mono ?_; rintro r w2 ⟨rfl, hw2⟩)
    | (go_at_call 169; refine hs0.mono ?_; rintro r w2 ⟨rfl, hw2⟩))
  all_goals
    go_wp2_with fail
    go_ret
  all_goals exact ⟨rfl, 1, rfl⟩
theorem op_place (h : Op w0 F w u N last D bs dv e how place) (hw : (how = 2 ∧ place = bs.length) ∨ how = 3) :
    Calls Tryz.prog 140 #[ptr F.k, ptr e] w fun r w' => r = .returned (.int .i64 bs.length) ∧ ∃ q, w' = w.drewN q := by
  rcases hw with ⟨rfl, rfl⟩ | rfl
  · exact place2 F.k e _ _ _ _ w h.hf
  · obtain ⟨a, cap, hdv⟩ := h.st.dslice
    exact place3 F.k e F.t F.th _ _ _ _ _ _ _ _ _ w h.hf h.st.hK (fun q => size_c F.t F.n F.fm 1 _ 2 (F.nd dv 1) a bs.length cap _ _ _ (w.drewN q) h.st.hT h.st.hF (by decide) h.st.look h.st.hn hdv)

set_option maxRecDepth 100000 in
set_option maxHeartbeats 2000000 in
theorem room_x (k e L : Nat) (w : World) (hL : L < 8192) (hp : Calls Tryz.prog 140 #[ptr k, ptr e] w fun r w' => r = .returned (.int .i64 L) ∧ ∃ q, w' = w.drewN q) :
    Calls Tryz.prog 102 #[ptr k, iFi e] w fun r w' => r = .returned (.tuple #[.int .i64 ((8192 - L : Nat) : Int), .int .i64 0]) ∧ ∃ q, w' = w.drewN q := by
  have t1 := ta_fi_we
  have t2 := ta_fi_fi
  have hL' : ¬ (8192 : Int) ≤ (L : Int) := by omega
  go_enter Tryz.func102, Tryz.ntmps102
  go_wp2_with (go_at_call 140; refine hp.mono ?_; rintro r w2 ⟨rfl, hw2⟩)
  refine bodyPost_ret (results_tmp2 rfl _ _ _) rfl ?_
  exact ⟨by rw [show ((8192 - L : Nat) : Int) = 8192 - (L : Int) by omega]; simp, hw2⟩

set_option maxRecDepth 100000 in
set_option maxHeartbeats 4000000 in
theorem op_give (h : Op w0 F w u N last D bs dv e how place) (hw : (how = 2 ∧ place = bs.length) ∨ how = 3) (b o n c : Nat) (cs : List UInt8) (hcs : cs.length = n) (hn0 : 0 < n) (hc : n ≤ c) (hbig : bs.length + n ≤ 8192) (hb : b < F.B) (hcell : ∀ j, j < n → w.cell? ⟨b, o + j, none⟩ = some (.int .u8 ((cs[j]?.getD 0).toNat : Int))) :
    Calls Tryz.prog 104 #[ptr F.k, iFi e, .slice (some ⟨b, o, none⟩) n c] w fun r w' => (∃ x, r = .returned x) ∧ ∃ dv', Op w0 F w' u N last D (bs ++ cs) dv' e how ((bs.length : Int) + (n : Int)) ∧ (dv'.ownBlock = dv.ownBlock ∨ ∃ g, dv'.ownBlock = some g ∧ w.heap.size ≤ g) ∧ Turn (F.n :: e :: dv.ownBlock.toList) w w' := by
  have hp := op_place h hw
  obtain ⟨a, cap, hdv⟩ := h.st.dslice
  have hne := h_ne h.hf (show w.heap[F.n]? = _ from h.st.hn) (by decide)
  have hde := h.st.dne h.hf (by decide)
  have n1 := h.st.ok.n1
  have t0 := ta_fi_sk
  have t1 := ta_fi_we
  have t2 := ta_fi_fi
  have HQ : Hid (∀ w2, Turn [] w w2 → (w2.cell? ⟨F.k, 0, none⟩ = some (ptr F.t) ∧ w2.cell? ⟨F.k, 3, none⟩ = some (.int .i64 3) ∧ w2.cell? ⟨e, 2, none⟩ = some (.int .i64 2) ∧ w2.cell? ⟨e, 4, none⟩ = some (.int .i64 place)) ∧
      Calls Tryz.prog 141 #[.pointer (some ⟨F.t, 0, none⟩), .int .i64 2, .int .i64 bs.length, .slice (some ⟨b, o, none⟩) n c, .int .i64 3] (w2.drewN 1) fun r w' => (∃ x, r = .returned x) ∧ (∃ dv', NdAt w' F.n (F.nd dv' 1) ∧ w'.ownsRow F.B 5 1 dv' (bs ++ cs).length (u8s (bs ++ cs)) ∧ (dv'.ownBlock = dv.ownBlock ∨ ∃ g, dv'.ownBlock = some g ∧ w.heap.size ≤ g)) ∧ FiAt w' e 1 last 2 how place ∧ Turn (F.n :: e :: dv.ownBlock.toList) w w') := fun w2 hU => by
    have h2 := h.same hU
    refine ⟨⟨h_cell h2.st.hK 0 rfl, h_cell h2.st.hK 3 rfl, h_cell h2.hf 2 rfl, h_cell h2.hf 4 rfl⟩, ?_⟩
    have hU2 : Turn [] w (w2.drewN 1) := hU.drewN 1
    have h3 := h.same hU2
    have hd3 := h3.st.hd
    have hn3 := h3.st.hn
    rw [hdv] at hd3 hn3
    refine (write_end F.t F.n F.fm 1 _ 2 3 (F.nd (.slice a bs.length cap) 1) a bs.length cap F.B b o n c (u8s bs) cs _ _ _ (w2.drewN 1) h3.st.hT h3.st.hF (by decide) h.st.look hn3 rfl hd3 h3.st.hB (by omega) hn0 (by omega) hcs hc (fun j hj => hU2.cell (hcell j hj) (by simp)) (fun e => by have := own_ge hd3 e; omega) (by omega)).mono ?_
    rintro r w' ⟨hx, dv', hn', ho', hU', hloc⟩
    have hT : Turn (F.n :: e :: dv.ownBlock.toList) w w' := (hU2.mono (by simp)).trans (hU'.mono (fun x hx => by
      rw [← hdv] at hx
      rcases List.mem_cons.1 hx with rfl | hx
      · simp
      · exact List.mem_cons_of_mem _ (List.mem_cons_of_mem _ hx)))
    refine ⟨hx, ⟨dv', hn', by rw [List.length_append, hcs, show u8s (bs ++ cs) = u8s bs ++ u8s cs by simp [u8s]]; exact ho', ?_⟩, hU'.ob h3.hf ?_, hT⟩
    · rw [← hdv] at hloc
      rcases hloc with h1 | ⟨g, h1, h2⟩
      · exact .inl h1
      · exact .inr ⟨g, h1, Nat.le_trans hU2.size h2⟩
    · rw [← hdv]
      intro e1
      rcases List.mem_cons.1 e1 with e1 | e1
      · exact hne e1
      · exact hde (by simpa using e1)
  have HH := Lib.hid h
  clear h hcell hw hdv
  go_enter Tryz.func104, Tryz.ntmps104
  go_wp2_with (go_at_call 140; refine hp.mono ?_; rintro r w2 ⟨rfl, q, hw2⟩; have hU2 : Turn [] w w2 := (by rw [hw2]; exact (Turn.refl [] w).drewN q); clear hw2)
  clear hp
  obtain ⟨⟨k0, k3, f2, f4⟩, hwr⟩ := HQ.out w2 hU2
  clear HQ
  go_region_with (go_at_call 141; refine hwr.mono ?_; rintro r w3 ⟨⟨x3, rfl⟩, hdd, hf3, hU3⟩; have g4 := h_cell hf3 4 rfl; have z4 := h_fz hf3 4)
  all_goals
    have HX := Lib.hid (And.intro hdd (And.intro hf3 hU3))
    clear hdd hf3 hU3
    go_wp2_with fail
    go_end0
  all_goals
    obtain ⟨⟨dv', hn', ho', hloc⟩, hf3, hU3⟩ := HX.out
    have hnF := h_ne hf3 (show w3.heap[F.n]? = _ from hn') (by decide)
    have hdF := row_ne ho' hf3 (by decide)
    have hUs : Turn [e] w3 (w3.setCell ⟨e, 4, none⟩ (.int .i64 ((bs.length : Int) + (n : Int)))) := Turn.set w3 e 4 _ (by simp)
    refine ⟨⟨_, rfl⟩, dv', HH.out.file (hUs.nd hn' (by simpa using fun e1 => hnF e1.symm)) (own_turn ho' hUs (fun g hg e1 => hdF (by simp at e1; rw [← e1]; exact hg))) (by simpa using h_set hf3 4 (.int .i64 ((bs.length : Int) + (n : Int)))) (hU3.trans (hUs.mono (by simp))), hloc, hU3.trans (hUs.mono (by simp))⟩
end
end Go.Proofs.YtbbmihlabllliaaGreatDoor
