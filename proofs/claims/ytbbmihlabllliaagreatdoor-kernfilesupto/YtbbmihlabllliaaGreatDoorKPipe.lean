/- A pipe between two calls, and what a Read and a Write make of it. -/
import Derived.Test.YtbbmihlabllliaaGreatDoorKTrans
namespace Go.Proofs.YtbbmihlabllliaaGreatDoor
open Go.RowKit Go.Shelf Go.Maps

/-- Where all lies, and what befalls. -/
structure PF where
  B : Nat
  k : Nat
  fb : Nat
  th : Nat
  re : Nat
  we : Nat
  p : Nat
  tr : Value
  fv : Value
  l : List (Int × Int)
  now : Int
  last : Int
  rc : Int
structure PFok (F : PF) : Prop where
  kB : F.k < F.B
  fB : F.fb < F.B
  rB : F.re < F.B
  wB : F.we < F.B
  pB : F.p < F.B
  fk : F.fb ≠ F.k
  fp : F.fb ≠ F.p
  kinds : ∀ j, j < F.l.length → (F.l[j]?.getD (0, 0)).1 = 1 ∨ (F.l[j]?.getD (0, 0)).1 = 2
  rc0 : (F.rc == 0) = false
structure Pst (F : PF) (wc : Int) (w : World) (u : Nat) (d : List UInt8) (v : Value) : Prop where
  ok : PFok F
  hK : KnAt w F.k F.tr F.fv u F.now F.th F.last
  hF : Fl w F.fv F.fb F.l
  hR : ReAt w F.re F.rc F.p
  hW : WeAt w F.we wc F.p
  hP : PpAt w F.p v F.re F.we
  ho : w.ownsRow F.B 5 1 v d.length (u8s d)
  hB : F.B ≤ w.heap.size
  hu : u ≤ F.l.length
  hd : d.length ≤ 64
section
variable {F : PF} {wc : Int} {w w' : World} {u : Nat} {d : List UInt8} {v : Value}
theorem Pst.turn {S : List Nat} (h : Pst F wc w u d v) (hU : Turn S w w') (h1 : ∀ x, x ∈ S → F.B ≤ x) (h2 : ∀ g, v.ownBlock = some g → g ∉ S) : Pst F wc w' u d v := by
  have hno : ∀ x, x < F.B → x ∉ S := fun x hx e => by have := h1 x e; omega
  exact ⟨h.ok, hU.ob h.hK (hno _ h.ok.kB), h.hF.turn hU (hno _ h.ok.fB), hU.ob h.hR (hno _ h.ok.rB), hU.ob h.hW (hno _ h.ok.wB), hU.ob h.hP (hno _ h.ok.pB), own_turn h.ho hU h2, Nat.le_trans h.hB hU.size, h.hu, h.hd⟩
/-- The kernel alone has turned. -/
theorem Pst.kern (h : Pst F wc w u d v) {u' : Nat} (hK : KnAt w' F.k F.tr F.fv u' F.now F.th F.last) (hU : Turn [F.k] w w') (hu' : u' ≤ F.l.length) : Pst F wc w' u' d v := by
  have hk := h.ok.kB
  refine ⟨h.ok, hK, h.hF.turn hU (by simpa using h.ok.fk), hU.ob h.hR ?_, hU.ob h.hW ?_, hU.ob h.hP ?_, own_turn h.ho hU (fun g hg e => ?_), Nat.le_trans h.hB hU.size, hu', h.hd⟩
  · simpa using h_ne h.hR h.hK (by decide)
  · simpa using h_ne h.hW h.hK (by decide)
  · simpa using h_ne h.hP h.hK (by decide)
  · have := own_ge h.ho hg; simp at e; omega

theorem befall_pst (h : Pst F wc w u d v) (m : Int) (isW : Bool) :
    (Calls Tryz.prog 103 #[ptr F.k, .int .i64 m, .bool isW] w fun e w' => e = .returned (.tuple #[.int .i64 m, .int .i64 0]) ∧ Pst F wc w' u d v ∧ Turn [F.k] w w')
    ∨ (∃ N : Int, Calls Tryz.prog 103 #[ptr F.k, .int .i64 m, .bool isW] w fun e w' => e = .returned (.tuple #[.int .i64 (min m (max N 1)), .int .i64 0]) ∧ Pst F wc w' (u + 1) d v ∧ Turn [F.k] w w')
    ∨ (Calls Tryz.prog 103 #[ptr F.k, .int .i64 m, .bool isW] w fun e w' => e = .returned (.tuple #[.int .i64 0, .int .i64 9]) ∧ Pst F wc w' (u + 1) d v ∧ Turn [F.k] w w') := by
  by_cases hu : u = F.l.length
  · left
    refine (befall_none F.k F.fb F.th F.tr F.fv F.l F.now F.last m isW w (by rw [← hu]; exact h.hK) h.hF).mono ?_
    rintro e w' ⟨rfl, n, rfl⟩
    have hU : Turn [F.k] w (w.drewN n) := (Turn.refl _ w).drewN n
    exact ⟨rfl, h.kern h.hK hU h.hu, hU⟩
  · have hlt : u < F.l.length := by have := h.hu; omega
    right
    rcases h.ok.kinds u hlt with hk | hk
    · left
      refine ⟨(F.l[u]?.getD (0, 0)).2, (befall_short F.k F.fb F.th u F.tr F.fv F.l F.now F.last m isW w h.hK h.hF hlt hk).mono ?_⟩
      rintro e w' ⟨rfl, hK, hU⟩
      exact ⟨rfl, h.kern (by simpa using hK) hU hlt, hU⟩
    · right
      refine (befall_intr F.k F.fb F.th u F.tr F.fv F.l F.now F.last m isW w h.hK h.hF hlt hk).mono ?_
      rintro e w' ⟨rfl, hK, hU⟩
      exact ⟨rfl, h.kern (by simpa using hK) hU hlt, hU⟩

/-- What a Read of a pipe's end leaves. -/
structure RdOut (F : PF) (wc : Int) (w : World) (u : Nat) (d : List UInt8) (v : Value) (m n u' : Nat) (h : Int) (v1 v' : Value) (w' : World) : Prop where
  out : w'.ownsRow w.heap.size 5 1 v1 (d.take n).length (u8s (d.take n))
  st : Pst F wc w' u' (d.drop n) v'
  nm : n ≤ m
  uu : u ≤ u'
  hh : h = 0 ∨ h = 9 ∨ h = 10
  mv : u' = u → d = [] ∨ n = m
  again : wc = 0 → h ≠ 10
  intr : h = 9 → u' = u + 1
  blk : v'.ownBlock = v.ownBlock
  tn : Turn (F.k :: F.p :: v.ownBlock.toList) w w'

theorem pst_take (h : Pst F wc w u d v) (n : Nat) (hn : 0 < n) (hn2 : n ≤ 1073741824) :
    Calls Tryz.prog 106 #[ptr F.k, iRe F.re, .int .i64 n] w fun r w' => ∃ v1, r = .returned v1 ∧ ∃ v', w'.ownsRow w.heap.size 5 1 v1 (d.take n).length (u8s (d.take n)) ∧ Pst F wc w' u (d.drop n) v' ∧ v'.ownBlock = v.ownBlock ∧ Turn (F.p :: v.ownBlock.toList) w w' := by
  refine (take_re F.k F.re F.we F.p F.B n v F.rc d w h.hR h.hP h.ho h.hd hn2 hn).mono ?_
  rintro e w' ⟨v1, v2, rfl, h1, hP, ho, hblk, hU⟩
  have hno : ∀ x, x < F.B → x ≠ F.p → x ∉ F.p :: v.ownBlock.toList := fun x hx hxp e => by
    rcases List.mem_cons.1 e with e | e
    · exact hxp e
    · have := own_ge h.ho (g := x) (by simpa using e); omega
  refine ⟨v1, rfl, v2, h1, ⟨h.ok, hU.ob h.hK (hno _ h.ok.kB (h_ne h.hK h.hP (by decide))), h.hF.turn hU (hno _ h.ok.fB h.ok.fp), hU.ob h.hR (hno _ h.ok.rB (h_ne h.hR h.hP (by decide))), hU.ob h.hW (hno _ h.ok.wB (h_ne h.hW h.hP (by decide))), hP, ho, Nat.le_trans h.hB hU.size, h.hu, ?_⟩, hblk, hU⟩
  have := h.hd
  rw [List.length_drop]; omega

theorem pst_read (h : Pst F wc w u d v) (m : Nat) (hm : 1 ≤ m) (hm2 : m ≤ 1073741824) (hwc : 0 ≤ wc) :
    Calls Tryz.prog 52 #[ptr F.k, iRe F.re, .int .i64 m] w fun e w' => ∃ n u' hh v1 v', e = .returned (.tuple #[v1, .int .i64 hh]) ∧ RdOut F wc w u d v m n u' hh v1 v' w' := by
  obtain ⟨a, L, cap, hv, hL⟩ : ∃ a L cap, v = .slice a L cap ∧ L = d.length := by
    rcases (row_split h.ho).2 with ⟨rfl, h0⟩ | ⟨g, cap, rfl, _⟩
    · exact ⟨_, _, _, rfl, h0.symm⟩
    · exact ⟨_, _, _, rfl, rfl⟩
  have hP := h.hP
  rw [hv] at hP
  by_cases hag : d.length = 0 ∧ 0 < wc
  · obtain rfl : d = [] := List.eq_nil_of_length_eq_zero hag.1
    obtain rfl : L = 0 := hL
    refine (read_no F.k (iRe F.re) m 10 w (by decide) (mayRead_again F.re F.we F.p a cap F.rc wc m w h.hR hP h.hW (by omega) hag.2)).mono ?_
    rintro e w' ⟨rfl, rfl⟩
    exact ⟨0, u, 10, _, v, rfl, by simpa [u8s] using World.ownsRow_nil _ _ _ _, by simpa using h, Nat.zero_le _, Nat.le_refl _, by omega, fun _ => .inl rfl, fun e => by omega, fun e => by omega, rfl, Turn.refl _ _⟩
  · have hmay : Calls Tryz.prog 105 #[iRe F.re, .int .i64 m] w fun r w' => r = .returned (.int .i64 0) ∧ w' = w := by
      by_cases h0 : d.length = 0
      · obtain rfl : L = 0 := by omega
        obtain rfl : wc = 0 := by omega
        exact mayRead_end F.re F.we F.p a cap F.rc m w h.hR hP h.hW (by omega)
      · exact mayRead_data F.re F.p F.we a L cap F.rc m w h.hR hP (by omega) (by omega)
    rcases befall_pst h m false with hb | ⟨N, hb⟩ | hb
    · refine (read_ok F.k (iRe F.re) m m (fun w1 => Pst F wc w1 u d v ∧ Turn [F.k] w w1) (fun v1 w2 => ∃ v', w2.ownsRow w.heap.size 5 1 v1 (d.take m).length (u8s (d.take m)) ∧ Pst F wc w2 u (d.drop m) v' ∧ v'.ownBlock = v.ownBlock ∧ Turn (F.k :: F.p :: v.ownBlock.toList) w w2) w hmay hb ?_).mono ?_
      · rintro w1 ⟨h1, hU1⟩
        refine (pst_take h1 m (by omega) hm2).mono ?_
        rintro r w2 ⟨v1, rfl, v', ho, hst, hbl, hU2⟩
        refine ⟨v1, rfl, v', ⟨ho.1, ho.2.imp id ?_⟩, hst, hbl, (hU1.mono (by simp)).trans (hU2.mono (fun x hx => List.mem_cons_of_mem _ hx))⟩
        rintro ⟨g, cap, cur, e1, e2, e3⟩
        exact ⟨g, cap, cur, e1, Nat.le_trans hU1.size e2, e3⟩
      · rintro e w' ⟨v1, rfl, v', ho, hst, hbl, hU⟩
        exact ⟨m, u, 0, v1, v', rfl, ho, hst, Nat.le_refl _, Nat.le_refl _, .inl rfl, fun _ => .inr rfl, fun _ => by decide, fun e => by omega, hbl, hU⟩
    · obtain ⟨n, hn⟩ : ∃ n : Nat, min (m : Int) (max N 1) = n := ⟨(min (m : Int) (max N 1)).toNat, by omega⟩
      rw [hn] at hb
      refine (read_ok F.k (iRe F.re) m n (fun w1 => Pst F wc w1 (u + 1) d v ∧ Turn [F.k] w w1) (fun v1 w2 => ∃ v', w2.ownsRow w.heap.size 5 1 v1 (d.take n).length (u8s (d.take n)) ∧ Pst F wc w2 (u + 1) (d.drop n) v' ∧ v'.ownBlock = v.ownBlock ∧ Turn (F.k :: F.p :: v.ownBlock.toList) w w2) w hmay hb ?_).mono ?_
      · rintro w1 ⟨h1, hU1⟩
        refine (pst_take h1 n (by omega) (by omega)).mono ?_
        rintro r w2 ⟨v1, rfl, v', ho, hst, hbl, hU2⟩
        refine ⟨v1, rfl, v', ⟨ho.1, ho.2.imp id ?_⟩, hst, hbl, (hU1.mono (by simp)).trans (hU2.mono (fun x hx => List.mem_cons_of_mem _ hx))⟩
        rintro ⟨g, cap, cur, e1, e2, e3⟩
        exact ⟨g, cap, cur, e1, Nat.le_trans hU1.size e2, e3⟩
      · rintro e w' ⟨v1, rfl, v', ho, hst, hbl, hU⟩
        exact ⟨n, u + 1, 0, v1, v', rfl, ho, hst, by omega, by omega, .inl rfl, fun e => by omega, fun _ => by decide, fun e => by omega, hbl, hU⟩
    · refine (read_err F.k (iRe F.re) m 0 9 (fun w1 => Pst F wc w1 (u + 1) d v ∧ Turn [F.k] w w1) w (by decide) hmay hb).mono ?_
      rintro e w' ⟨rfl, h1, hU1⟩
      exact ⟨0, u + 1, 9, _, v, rfl, by simpa [u8s] using World.ownsRow_nil _ _ _ _, by simpa using h1, Nat.zero_le _, by omega, by omega, fun e => by omega, fun _ => by decide, fun _ => rfl, rfl, hU1.mono (by simp)⟩

/-- What a Write to a pipe's end leaves. -/
structure WrOut (F : PF) (wc : Int) (w : World) (u : Nat) (d : List UInt8) (v : Value) (cs : List UInt8) (m u' : Nat) (g : Int) (v' : Value) (w' : World) : Prop where
  st : Pst F wc w' u' (d ++ cs.take m) v'
  mc : m ≤ cs.length
  uu : u ≤ u'
  gg : g = 0 ∨ g = 9 ∨ g = 10
  mv : u' = u → cs.length = 0 ∨ 64 ≤ d.length ∨ 1 ≤ m
  blk : v'.ownBlock = v.ownBlock ∨ ∃ b, v'.ownBlock = some b ∧ w.heap.size ≤ b
  tn : Turn (F.k :: F.p :: v.ownBlock.toList) w w'

theorem pst_give (h : Pst F wc w u d v) (b o n c : Nat) (cs : List UInt8) (hcs : cs.length = n) (hn : 0 < n) (hn2 : d.length + n ≤ 64) (hc : ∀ j, j < n → w.cell? ⟨b, o + j, none⟩ = some (.int .u8 ((cs[j]?.getD 0).toNat : Int))) :
    Calls Tryz.prog 104 #[ptr F.k, iWe F.we, .slice (some ⟨b, o, none⟩) n c] w fun r w' => (∃ x, r = .returned x) ∧ ∃ v', Pst F wc w' u (d ++ cs) v' ∧ (v'.ownBlock = v.ownBlock ∨ ∃ b, v'.ownBlock = some b ∧ w.heap.size ≤ b) ∧ Turn (F.p :: v.ownBlock.toList) w w' := by
  refine (give_we F.k F.we F.re F.p F.B b o n c v wc d cs w h.hW h.hP h.ho h.hB h.hd hcs hn (by omega) hc).mono ?_
  rintro e w' ⟨hx, v2, hP, ho, hblk, hU⟩
  have hno : ∀ x, x < F.B → x ≠ F.p → x ∉ F.p :: v.ownBlock.toList := fun x hx hxp e => by
    rcases List.mem_cons.1 e with e | e
    · exact hxp e
    · have := own_ge h.ho (g := x) (by simpa using e); omega
  refine ⟨hx, v2, ⟨h.ok, hU.ob h.hK (hno _ h.ok.kB (h_ne h.hK h.hP (by decide))), h.hF.turn hU (hno _ h.ok.fB h.ok.fp), hU.ob h.hR (hno _ h.ok.rB (h_ne h.hR h.hP (by decide))), hU.ob h.hW (hno _ h.ok.wB (h_ne h.hW h.hP (by decide))), hP, ho, Nat.le_trans h.hB hU.size, h.hu, ?_⟩, hblk, hU⟩
  rw [List.length_append]; omega

theorem pst_write (h : Pst F wc w u d v) (cv : Value) (cs : List UInt8) (hs : Src F.B w cv cs) (hbig : cs.length ≤ 1073741824) (hsk : cs.length ≠ 0 → ∀ a L c, cv = .slice (some a) L c → a.block ≠ F.k) :
    Calls Tryz.prog 51 #[ptr F.k, iWe F.we, cv] w fun e w' => ∃ m u' g v', e = .returned (.tuple #[.int .i64 (m : Nat), .int .i64 g]) ∧ WrOut F wc w u d v cs m u' g v' w' := by
  obtain ⟨a, c, rfl, hc, hsrc⟩ := hs
  obtain ⟨a2, L2, cap2, hv, hL2⟩ : ∃ a L cap, v = .slice a L cap ∧ L = d.length := by
    rcases (row_split h.ho).2 with ⟨rfl, h0⟩ | ⟨g, cap, rfl, _⟩
    · exact ⟨_, _, _, rfl, h0.symm⟩
    · exact ⟨_, _, _, rfl, rfl⟩
  have hP := h.hP
  rw [hv] at hP
  by_cases h0 : cs.length = 0
  · obtain rfl : cs = [] := List.eq_nil_of_length_eq_zero h0
    refine (write_empty F.k (iWe F.we) a c w (isW_we F.we w)).mono ?_
    rintro e w' ⟨rfl, rfl⟩
    exact ⟨0, u, 0, v, rfl, by simpa using h, Nat.le_refl _, Nat.le_refl _, .inl rfl, fun _ => .inl rfl, .inl rfl, Turn.refl _ _⟩
  · by_cases hfull : 64 ≤ d.length
    · refine (write_no F.k (iWe F.we) a cs.length c 10 w (by omega) (by decide) (isW_we F.we w) (room_full F.k F.we F.p F.re a2 L2 cap2 F.rc wc w h.hW hP h.hR h.ok.rc0 (by omega))).mono ?_
      rintro e w' ⟨rfl, rfl⟩
      exact ⟨0, u, 10, v, rfl, by simpa using h, Nat.zero_le _, Nat.le_refl _, by omega, fun _ => .inr (.inl hfull), .inl rfl, Turn.refl _ _⟩
    · rcases hsrc with hz | ⟨b, o, rfl, hb, hcl⟩
      · exact absurd hz h0
      · have hroom : Calls Tryz.prog 102 #[ptr F.k, iWe F.we] w fun r w' => r = .returned (.tuple #[.int .i64 ((64 - d.length : Nat) : Int), .int .i64 0]) ∧ ∃ q, w' = w.drewN q := by
          refine (room_ok F.k F.we F.p F.re a2 L2 cap2 F.rc wc w h.hW hP h.hR h.ok.rc0 (by omega)).mono ?_
          rintro e w' ⟨rfl, rfl⟩
          exact ⟨by rw [hL2, show (64 : Int) - (d.length : Int) = ((64 - d.length : Nat) : Int) by omega], 0, rfl⟩
        have hbk : b ≠ F.k := hsk h0 _ _ _ rfl
        -- the write itself, of so many bytes
        have hgo : ∀ (n u' : Nat), 0 < n → n ≤ cs.length → d.length + n ≤ 64 → u ≤ u' → (∀ q, Calls Tryz.prog 103 #[ptr F.k, .int .i64 (min cs.length (64 - d.length) : Nat), .bool true] (w.drewN q) fun r w' => r = .returned (.tuple #[.int .i64 n, .int .i64 0]) ∧ (Pst F wc w' u' d v ∧ Turn [F.k] w w')) →
            Calls Tryz.prog 51 #[ptr F.k, iWe F.we, .slice (some ⟨b, o, none⟩) cs.length c] w fun e w' => ∃ m u' g v', e = .returned (.tuple #[.int .i64 (m : Nat), .int .i64 g]) ∧ WrOut F wc w u d v cs m u' g v' w' := fun n u' hn1 hn2 hn3 huu hbf => by
          refine (write_ok F.k (iWe F.we) ⟨b, o, none⟩ cs.length c (64 - d.length) n (fun w1 => Pst F wc w1 u' d v ∧ Turn [F.k] w w1) (fun w2 => ∃ v', Pst F wc w2 u' (d ++ cs.take n) v' ∧ (v'.ownBlock = v.ownBlock ∨ ∃ b, v'.ownBlock = some b ∧ w.heap.size ≤ b) ∧ Turn (F.k :: F.p :: v.ownBlock.toList) w w2) w (by omega) hc hn2 (isW_we F.we w) hroom hbf ?_).mono ?_
          · rintro w1 ⟨h1, hU1⟩
            refine (pst_give h1 b o n c (cs.take n) (by rw [List.length_take]; omega) hn1 hn3 (fun j hj => ?_)).mono ?_
            · rw [List.getElem?_take, if_pos hj]
              exact hU1.cell (hcl j (by omega)) (by simpa using hbk)
            · rintro r w2 ⟨hx, v', hst, hbl, hU2⟩
              refine ⟨hx, v', hst, hbl.imp id ?_, (hU1.mono (by simp)).trans (hU2.mono (fun x hx => List.mem_cons_of_mem _ hx))⟩
              rintro ⟨b', e1, e2⟩
              exact ⟨b', e1, Nat.le_trans hU1.size e2⟩
          · rintro e w' ⟨rfl, v', hst, hbl, hU⟩
            exact ⟨n, u', 0, v', rfl, hst, hn2, huu, .inl rfl, fun _ => .inr (.inr hn1), hbl, hU⟩
        have hq : ∀ q, Pst F wc (w.drewN q) u d v := fun q => h.kern h.hK ((Turn.refl _ w).drewN q) h.hu
        by_cases hu : u = F.l.length
        · refine hgo (min cs.length (64 - d.length)) u (by omega) (by omega) (by omega) (Nat.le_refl _) (fun q => ?_)
          refine (befall_none F.k F.fb F.th F.tr F.fv F.l F.now F.last _ true (w.drewN q) (by rw [← hu]; exact h.hK) (hq q).hF).mono ?_
          rintro e w' ⟨rfl, n, rfl⟩
          exact ⟨rfl, (hq q).kern h.hK ((Turn.refl _ _).drewN n) h.hu, ((Turn.refl _ w).drewN q).trans ((Turn.refl _ _).drewN n)⟩
        · have hlt : u < F.l.length := by have := h.hu; omega
          rcases h.ok.kinds u hlt with hk | hk
          · obtain ⟨n, hn⟩ : ∃ n : Nat, min ((min cs.length (64 - d.length) : Nat) : Int) (max (F.l[u]?.getD (0, 0)).2 1) = n := ⟨(min ((min cs.length (64 - d.length) : Nat) : Int) (max (F.l[u]?.getD (0, 0)).2 1)).toNat, by omega⟩
            refine hgo n (u + 1) (by omega) (by omega) (by omega) (by omega) (fun q => ?_)
            refine (befall_short F.k F.fb F.th u F.tr F.fv F.l F.now F.last _ true (w.drewN q) h.hK (hq q).hF hlt hk).mono ?_
            rintro e w' ⟨rfl, hK, hU⟩
            exact ⟨by rw [hn], (hq q).kern (by simpa using hK) hU hlt, ((Turn.refl _ w).drewN q).trans hU⟩
          · refine (write_err F.k (iWe F.we) (some ⟨b, o, none⟩) cs.length c (64 - d.length) 0 9 (fun w1 => Pst F wc w1 (u + 1) d v ∧ Turn [F.k] w w1) w (by omega) (by decide) (isW_we F.we w) hroom (fun q => ?_)).mono ?_
            · refine (befall_intr F.k F.fb F.th u F.tr F.fv F.l F.now F.last _ true (w.drewN q) h.hK (hq q).hF hlt hk).mono ?_
              rintro e w' ⟨rfl, hK, hU⟩
              exact ⟨rfl, (hq q).kern (by simpa using hK) hU hlt, ((Turn.refl _ w).drewN q).trans hU⟩
            · rintro e w' ⟨rfl, h1, hU1⟩
              exact ⟨0, u + 1, 9, v, rfl, by simpa using h1, Nat.zero_le _, by omega, by omega, fun e => by omega, .inl rfl, hU1.mono (by simp)⟩
end
end Go.Proofs.YtbbmihlabllliaaGreatDoor
