/- The pipe, the two tables and what was got so far: how they stand between two calls. -/
import Derived.Test.YtbbmihlabllliaaGreatDoorKBegun
namespace Go.Proofs.YtbbmihlabllliaaGreatDoor
open Go.RowKit Go.Shelf Go.Maps

abbrev hs0 (re : Nat) : Array Value := #[iRe re, .nilIface, .nilIface, .nilIface, .nilIface, .nilIface, .nilIface, .nilIface, .nilIface, .nilIface, .nilIface, .nilIface, .nilIface, .nilIface, .nilIface, .nilIface]
abbrev hs1 (we : Nat) : Array Value := #[.nilIface, iWe we, .nilIface, .nilIface, .nilIface, .nilIface, .nilIface, .nilIface, .nilIface, .nilIface, .nilIface, .nilIface, .nilIface, .nilIface, .nilIface, .nilIface]
theorem Src.mono2 {B B' : Nat} {w : World} {v : Value} {l : List UInt8} (h : Src B w v l) (hb : B ≤ B') : Src B' w v l := by
  obtain ⟨a, cap, hv, hc, h0 | ⟨b, o, ha, hB, hcell⟩⟩ := h
  · exact ⟨a, cap, hv, hc, .inl h0⟩
  · exact ⟨a, cap, hv, hc, .inr ⟨b, o, ha, by omega, hcell⟩⟩
theorem own_lt {w : World} {B e n : Nat} {v : Value} {xs : List Value} (h : w.ownsRow B e 1 v n xs) {g : Nat} (hg : v.ownBlock = some g) : g < w.heap.size := by
  rcases h.2 with ⟨rfl, _⟩ | ⟨g', cap, cur, rfl, hb, hg', _⟩
  · simp [Value.ownBlock] at hg
  · obtain rfl : g' = g := by simpa [Value.ownBlock] using hg
    exact h_lt hg'
structure Lp (w0 : World) (F : PF) (t0 t1 pb : Nat) (x1 x2 x3 : Value) (w : World) : Prop where
  T0 : TbAt w t0 F.k (hs0 F.re)
  T1 : TbAt w t1 F.k (hs1 F.we)
  hp : w.heap[pb]? = some (.cells #[ptr F.k, x1, ptr t0, ptr t1, x2, x3] 48)
  b0 : t0 < F.B
  b1 : t1 < F.B
  bp : pb < F.B
  ne : t0 ≠ t1
  k0 : w0.heap.size ≤ F.k
  p0 : w0.heap.size ≤ F.p
  w0' : w0.heap.size ≤ F.we
  t10 : w0.heap.size ≤ t1
  B0 : w0.heap.size ≤ F.B
  fw : F.fb ≠ F.we
  f1 : F.fb ≠ t1
  bl : Below w0.heap.size w0 w
structure Rs (w0 : World) (bs : List UInt8) (F : PF) (t0 t1 pb : Nat) (x1 x2 x3 : Value) (w : World) (s q r u : Nat) (gv pv : Value) : Prop where
  lp : Lp w0 F t0 t1 pb x1 x2 x3 w
  ps : Pst F 1 w u ((bs.drop r).take (s - r)) pv
  go : w.ownsRow F.B 5 1 gv q (u8s (bs.take q))
  dj : ∀ g, gv.ownBlock = some g → pv.ownBlock ≠ some g
  qr : q ≤ r
  rs : r ≤ s
  sb : s ≤ bs.length

section
variable {w0 : World} {bs : List UInt8} {F : PF} {t0 t1 pb : Nat} {x1 x2 x3 : Value} {w w' : World} {s q r u : Nat} {gv pv : Value}
theorem Lp.turn {S : List Nat} (h : Lp w0 F t0 t1 pb x1 x2 x3 w) (hU : Turn S w w') (hS : ∀ x, x ∈ S → x = F.k ∨ x = F.p ∨ F.B ≤ x) {cs1 cs2 : Array Value} (hK : w.heap[F.k]? = some (.cells cs1 116)) (hP : w.heap[F.p]? = some (.cells cs2 99)) : Lp w0 F t0 t1 pb x1 x2 x3 w' := by
  have h0 := h.b0
  have h1 := h.b1
  have h2 := h.bp
  have a1 := h_ne h.T0 hK (by decide)
  have a2 := h_ne h.T0 hP (by decide)
  have a3 := h_ne h.T1 hK (by decide)
  have a4 := h_ne h.T1 hP (by decide)
  have a5 := h_ne h.hp hK (by decide)
  have a6 := h_ne h.hp hP (by decide)
  have b1 := h.k0
  have b2 := h.p0
  have b3 := h.B0
  refine { h with T0 := hU.ob h.T0 (fun e => ?_), T1 := hU.ob h.T1 (fun e => ?_), hp := hU.ob h.hp (fun e => ?_), bl := h.bl.trans ⟨hU.os, hU.tape, hU.output, hU.size, fun x hx => hU.block x (by have := h.bl.size; omega) (fun e => ?_)⟩ }
  · have := hS _ e; omega
  · have := hS _ e; omega
  · have := hS _ e; omega
  · have := hS _ e; omega

theorem seg (bs : List UInt8) (r s m : Nat) (h1 : r ≤ s) : (bs.drop r).take (s - r) ++ (bs.drop s).take m = (bs.drop r).take (s + m - r) := by
  rw [show s + m - r = (s - r) + m by omega, List.take_add, List.drop_drop, show r + (s - r) = s by omega]
theorem seg_len (bs : List UInt8) (r s : Nat) (h2 : s ≤ bs.length) : ((bs.drop r).take (s - r)).length = s - r := by
  rw [List.length_take, List.length_drop]; omega
theorem seg_take (bs : List UInt8) (r s n : Nat) : ((bs.drop r).take (s - r)).take n = (bs.drop r).take (min n (s - r)) := by rw [List.take_take]
theorem seg_drop (bs : List UInt8) (r s n : Nat) (h1 : r ≤ s) : ((bs.drop r).take (s - r)).drop n = (bs.drop (r + min n (s - r))).take (s - (r + min n (s - r))) := by
  by_cases h : n ≤ s - r
  · rw [Nat.min_eq_left h, List.drop_take, List.drop_drop, show s - r - n = s - (r + n) by omega]
  · rw [Nat.min_eq_right (by omega), show s - (r + (s - r)) = 0 by omega, List.take_zero]
    apply List.drop_eq_nil_of_le
    rw [List.length_take]; omega

/-- What a Write by the second table leaves. -/
structure WrS (w0 : World) (bs : List UInt8) (F : PF) (t0 t1 pb : Nat) (x1 x2 x3 : Value) (s q r u tt m u' : Nat) (g : Int) (gv pv' : Value) (w' : World) : Prop where
  st : Rs w0 bs F t0 t1 pb x1 x2 x3 w' (s + m) q r u' gv pv'
  ml : m ≤ tt - s
  uu : u ≤ u'
  gg : g = 0 ∨ g = 9 ∨ g = 10
  mv : u' = u → tt - s = 0 ∨ 64 ≤ s - r ∨ 1 ≤ m

theorem rs_write (h : Rs w0 bs F t0 t1 pb x1 x2 x3 w s q r u gv pv) (tt : Nat) (ht : s ≤ tt) (htb : tt ≤ bs.length) (hbig : bs.length ≤ 1048576) (cv : Value) (hs : Src w0.heap.size w cv ((bs.drop s).take (tt - s))) :
    Calls Tryz.prog 13 #[ptr t1, .int .i64 1, cv] w fun e w' => ∃ m u' g pv', e = .returned (.tuple #[.int .i64 (m : Nat), .int .i64 g]) ∧ WrS w0 bs F t0 t1 pb x1 x2 x3 s q r u tt m u' g gv pv' w' := by
  have hB0 := h.lp.B0
  have hk0 := h.lp.k0
  have hl2 : ((bs.drop s).take (tt - s)).length = tt - s := seg_len bs s tt htb
  have hl1 := seg_len bs r s h.sb
  refine twrite_c t1 F.k 1 (hs1 F.we) 97 F.we cv _ w h.lp.T1 (by decide) rfl ?_
  refine (pst_write h.ps cv _ (Src.mono2 hs hB0) (by omega) (fun hne0 a L c e => ?_)).mono ?_
  · obtain ⟨a', c', e', _, h0 | ⟨b, o, rfl, hb, _⟩⟩ := hs
    · exact absurd h0 hne0
    · rw [e] at e'; injection e' with e1; injection e1 with e1; rw [e1]
      show b ≠ F.k
      omega
  · rintro e w' ⟨m, u', g, v', rfl, ho⟩
    refine ⟨m, g, rfl, m, u', g, v', rfl, ?_, by have := ho.mc; omega, ho.uu, ho.gg, fun e => ?_⟩
    · have hmc := ho.mc
      have hst := ho.st
      rw [List.take_take, Nat.min_eq_left (by omega), seg bs r s m h.rs] at hst
      have hT : ∀ x, x ∈ F.k :: F.p :: pv.ownBlock.toList → x = F.k ∨ x = F.p ∨ F.B ≤ x := fun x hx => by
        rcases List.mem_cons.1 hx with rfl | hx
        · exact .inl rfl
        · rcases List.mem_cons.1 hx with rfl | hx
          · exact .inr (.inl rfl)
          · exact .inr (.inr (own_ge h.ps.ho (by simpa using hx)))
      have hgno : ∀ g, gv.ownBlock = some g → g ∉ F.k :: F.p :: pv.ownBlock.toList := fun g hg e => by
        have := own_ge h.go hg
        have := h.ps.ok.kB
        have := h.ps.ok.pB
        rcases List.mem_cons.1 e with e | e
        · omega
        · rcases List.mem_cons.1 e with e | e
          · omega
          · exact h.dj g hg (by simpa using e)
      refine ⟨h.lp.turn ho.tn hT h.ps.hK h.ps.hP, hst, own_turn h.go ho.tn hgno, fun g hg e => ?_, h.qr, by have := h.rs; omega, by have := h.sb; omega⟩
      rcases ho.blk with hb | ⟨b, hb, hz⟩
      · exact h.dj g hg (by rw [← hb]; exact e)
      · rw [hb] at e
        obtain rfl : b = g := by simpa using e
        have := own_lt h.go hg
        omega
    · rcases ho.mv e with h1 | h1 | h1
      · left; omega
      · right; left; omega
      · right; right; exact h1

/-- What a Read by the first table leaves, ahead of the append. -/
structure RdS (w0 : World) (bs : List UInt8) (F : PF) (t0 t1 pb : Nat) (x1 x2 x3 : Value) (s q r u n n1 u' : Nat) (hh : Int) (gv v1 pv' : Value) (B1 : Nat) (w' : World) : Prop where
  st : Rs w0 bs F t0 t1 pb x1 x2 x3 w' s q (r + n1) u' gv pv'
  out : w'.ownsRow B1 5 1 v1 n1 (u8s ((bs.drop r).take n1))
  nl : n1 ≤ n
  uu : u ≤ u'
  ee : hh = 0 ∨ hh = 9 ∨ hh = 10
  mv : u' = u → s = r ∨ n1 = min n (s - r)

theorem rs_read (h : Rs w0 bs F t0 t1 pb x1 x2 x3 w s q r u gv pv) (n : Nat) (hn : 1 ≤ n) (hn2 : n ≤ 1048577) :
    Calls Tryz.prog 14 #[ptr t0, .int .i64 0, .int .i64 n] w fun e w' => ∃ n1 u' hh v1 pv', e = .returned (.tuple #[v1, .int .i64 hh]) ∧ RdS w0 bs F t0 t1 pb x1 x2 x3 s q r u n n1 u' hh gv v1 pv' w.heap.size w' := by
  have hl1 := seg_len bs r s h.sb
  refine tread_c t0 F.k 0 (hs0 F.re) 96 F.re n _ w h.lp.T0 (by decide) rfl ?_
  refine (pst_read h.ps n hn (by omega) (by decide)).mono ?_
  rintro e w' ⟨n', u', hh, v1, v', rfl, ho⟩
  have hst := ho.st
  rw [seg_drop bs r s n' h.rs] at hst
  have hout := ho.out
  rw [seg_take] at hout
  have hl3 : ((bs.drop r).take (min n' (s - r))).length = min n' (s - r) := by rw [List.length_take, List.length_drop]; have := h.sb; have := h.rs; omega
  rw [hl3] at hout
  have hT : ∀ x, x ∈ F.k :: F.p :: pv.ownBlock.toList → x = F.k ∨ x = F.p ∨ F.B ≤ x := fun x hx => by
    rcases List.mem_cons.1 hx with rfl | hx
    · exact .inl rfl
    · rcases List.mem_cons.1 hx with rfl | hx
      · exact .inr (.inl rfl)
      · exact .inr (.inr (own_ge h.ps.ho (by simpa using hx)))
  have hgno : ∀ g, gv.ownBlock = some g → g ∉ F.k :: F.p :: pv.ownBlock.toList := fun g hg e => by
    have := own_ge h.go hg
    have := h.ps.ok.kB
    have := h.ps.ok.pB
    rcases List.mem_cons.1 e with e | e
    · omega
    · rcases List.mem_cons.1 e with e | e
      · omega
      · exact h.dj g hg (by simpa using e)
  refine ⟨v1, hh, rfl, min n' (s - r), u', hh, v1, v', rfl, ⟨h.lp.turn ho.tn hT h.ps.hK h.ps.hP, hst, own_turn h.go ho.tn hgno, fun g hg e => h.dj g hg (by rw [← ho.blk]; exact e), by have := h.qr; omega, by have := h.rs; omega, h.sb⟩, hout, by have := ho.nm; omega, ho.uu, ho.hh, fun e => ?_⟩
  rcases ho.mv e with h1 | h1
  · left
    have := congrArg List.length h1
    rw [hl1] at this
    have := h.rs
    have h9 : ([] : List UInt8).length = 0 := rfl
    omega
  · right; rw [h1]

/-- What was read is laid behind what was got. -/
theorem Rs.app {gv' : Value} (h : Rs w0 bs F t0 t1 pb x1 x2 x3 w s q r u gv pv) (hown : w'.ownsRow F.B 5 1 gv' r (u8s (bs.take r))) (hgrow : w.grownBy w' gv.ownBlock) (hat : gv'.ownBlock = gv.ownBlock ∨ gv'.ownBlock = some w.heap.size) : Rs w0 bs F t0 t1 pb x1 x2 x3 w' s r r u gv' pv := by
  have hU : Turn gv.ownBlock.toList w w' := ⟨hgrow.os, hgrow.tape, hgrow.output, hgrow.size, fun j hj hs => hgrow.block j hj (fun e => hs (by rw [← e]; simp))⟩
  have hge : ∀ x, x ∈ gv.ownBlock.toList → F.B ≤ x := fun x hx => own_ge h.go (by simpa using hx)
  refine ⟨h.lp.turn hU (fun x hx => .inr (.inr (hge x hx))) h.ps.hK h.ps.hP, h.ps.turn hU hge (fun g hg e => h.dj g (by simpa using e) hg), hown, fun g hg e => ?_, Nat.le_refl _, h.rs, h.sb⟩
  rcases hat with ha | ha
  · exact h.dj g (by rw [← ha]; exact hg) e
  · rw [ha] at hg
    obtain rfl : w.heap.size = g := by simpa using hg
    have := own_lt h.ps.ho e
    omega
end
end Go.Proofs.YtbbmihlabllliaaGreatDoor
