/- Options read, by the reference. -/
import Derived.Deep.RegionHeld3
import Derived.Deep.AppendLies
import Derived.Test.YtdgnbcbcfgfkmaaDoorQKey
namespace Go.Proofs.YtdgnbcbcfgfkmaaDoor
open Go.RowKit

def mkO (sep : Int) (kv : Value) (g : Fg) : Array Value := #[.bool g.b, .bool g.e, .bool g.d, .bool g.f, .bool g.i, .bool g.n, .bool g.r, .int .i64 sep, kv]
theorem mk_O (sep : Int) (kv : Value) : Mk (mkO sep kv) 0 := by
  refine ⟨fun g i hi => ?_, fun g h i hi e => ?_⟩
  · have : i = 0 ∨ i = 1 ∨ i = 2 ∨ i = 3 ∨ i = 4 ∨ i = 5 ∨ i = 6 := by omega
    rcases this with rfl | rfl | rfl | rfl | rfl | rfl | rfl <;> rfl
  · have : i = 0 ∨ i = 1 ∨ i = 2 ∨ i = 3 ∨ i = 4 ∨ i = 5 ∨ i = 6 := by omega
    rcases this with rfl | rfl | rfl | rfl | rfl | rfl | rfl <;> (simp only [Fg.cells, List.set, List.cons.injEq, Value.bool.injEq, and_true] at e; simp [mkO, e])
theorem flagS_k (g : Fg) : flagS g 107 false = none := rfl
theorem flagS_t (g : Fg) : flagS g 116 false = none := rfl
theorem flagsS_drop (l : Opts) (k : Nat) (h : k < l.length) (g : Fg) : flagsS (l.drop k) g = flagsS (l.drop (k + 1)) (flag1 g (nthO l k).1) := by
  rw [List.drop_eq_getElem_cons h, flagsS]; simp [nthO, h]
theorem keysS_drop (wh : Fg) (l : Opts) (k : Nat) (h : k < l.length) (ks : List Ky) : keysS wh (l.drop k) ks = if (nthO l k).1 = 107 then (keyS (nthO l k).2.data.toList wh).bind fun y => keysS wh (l.drop (k + 1)) (ks ++ [y]) else keysS wh (l.drop (k + 1)) ks := by
  rw [List.drop_eq_getElem_cons h, keysS]; simp [nthO, h]
theorem lastS_step (l : Opts) (c : UInt8) (k : Nat) (h : k < l.length) : lastS (l.take (k + 1)) c = if (nthO l k).1 = c then some (nthO l k).2 else lastS (l.take k) c := by
  rw [List.take_succ_eq_append_getElem h]; unfold lastS
  rw [List.reverse_append, List.reverse_singleton, List.singleton_append, List.find?_cons]
  have : nthO l k = l[k] := by simp [nthO, h]
  rw [this]
  by_cases e : l[k].1 = c
  · rw [if_pos e]; simp [e]
  · rw [if_neg e]
    have : (l[k].1 == c) = false := by simpa using e
    rw [this]
/-- The order while it is read. -/
structure Rw (w : World) (ob : Nat) (sep : Int) (kv : Value) (g : Fg) (wx : World) : Prop where
  ob_ : wx.heap[ob]? = some (.cells (mkO sep kv g) 61)
  bl : Below w.heap.size w wx
  ge : w.heap.size ≤ ob
theorem Rw.turn {w : World} {ob : Nat} {sep sep' : Int} {kv kv' : Value} {g g' : Fg} {wx wy : World} (h : Rw w ob sep kv g wx) (ht : Tn ob wx wy) (ho : wy.heap[ob]? = some (.cells (mkO sep' kv' g') 61)) : Rw w ob sep' kv' g' wy := by
  have hs := h.bl.size
  have hg := h.ge
  exact ⟨ho, ⟨ht.os.trans h.bl.os, ht.tape.trans h.bl.tape, ht.output.trans h.bl.output, Nat.le_trans hs ht.size, fun k hk => (ht.block k (by omega) (by omega)).trans (h.bl.block k hk)⟩, hg⟩
theorem Rw.c {w : World} {ob : Nat} {sep : Int} {kv : Value} {g : Fg} {wx : World} (h : Rw w ob sep kv g wx) (i : Nat) {y : Value} (hi : (mkO sep kv g)[i]? = some y) : wx.cell? ⟨ob, i, none⟩ = some y := by simp [World.cell?, h.ob_, hi]
theorem Rw.z {w : World} {ob : Nat} {sep : Int} {kv : Value} {g : Fg} {wx : World} (h : Rw w ob sep kv g wx) (i : Nat) : wx.frozen? ⟨ob, i, none⟩ = false := by simp [World.frozen?, h.ob_]
theorem Rw.or {w : World} {ob : Nat} {sep : Option UInt8} {kv : Value} {g : Fg} {wx : World} {ks : List Ky} {base : Nat} (h : Rw w ob (sepI sep) kv g wx) (hk : wx.ownsRow base 68 11 kv ks.length (kyCells ks)) (ok : ∀ y ∈ ks, y.Ok) (hl : ks.length ≤ 2097153) : OrR wx ob ⟨g, sep, ks⟩ :=
  ⟨⟨kv, h.ob_, own_zero hk⟩, ok, hl⟩
theorem Rw.other {w : World} {ob kb : Nat} {sep : Int} {kv : Value} {g : Fg} {wx wy : World} (h : Rw w ob sep kv g wx) (ht : Tn kb wx wy) (hne : ob ≠ kb) (hge : w.heap.size ≤ kb) : Rw w ob sep kv g wy := by
  have hs := h.bl.size
  have hl := (Array.getElem?_eq_some_iff.1 h.ob_).1
  exact ⟨(ht.block ob hl hne).trans h.ob_, ⟨ht.os.trans h.bl.os, ht.tape.trans h.bl.tape, ht.output.trans h.bl.output, Nat.le_trans hs ht.size, fun k hk => (ht.block k (by omega) (by omega)).trans (h.bl.block k hk)⟩, h.ge⟩
theorem own_tn {w w' : World} {base e s n kb : Nat} {v : Value} {xs : List Value} (h : w.ownsRow base e s v n xs) (ht : Tn kb w w') (hb : w.heap.size ≤ kb ∨ kb < base) : w'.ownsRow base e s v n xs := by
  refine ⟨h.1, ?_⟩
  rcases h.2 with h | ⟨g, cap, cur, h1, h2, h3, h4⟩
  · exact .inl h
  · have hl := (Array.getElem?_eq_some_iff.1 h3).1
    exact .inr ⟨g, cap, cur, h1, h2, (ht.block g hl (by omega)).trans h3, h4⟩
theorem ar_A {wr w2 : World} {o : Obj} (hb2 : Below (wr.alloc o).drew.heap.size (wr.alloc o).drew w2) : w2.heap[wr.heap.size]? = some o ∧ Below wr.heap.size wr w2 := by
  have h1 : Below (wr.alloc o).heap.size (wr.alloc o) w2 := (Below.refl _ _).drew.trans hb2
  refine ⟨?_, below_new h1⟩
  rw [h1.block wr.heap.size (by simp), heap_al, if_pos rfl]
theorem ar_B {wr w2 : World} (hb2 : Below wr.drew.heap.size wr.drew w2) : Below wr.heap.size wr w2 := (Below.refl _ _).drew.trans hb2
abbrev Zk (w : World) (K : Nat) : Prop := w.heap[K]? = some (.cells #[.int .i64 0, .int .i64 0, .int .i64 0, .int .i64 0, .bool false, .bool false, .bool false, .bool false, .bool false, .bool false, .bool false] 68)
theorem zk_c {w : World} {K : Nat} (h : Zk w K) (i : Nat) {y : Value} (hi : (#[.int .i64 0, .int .i64 0, .int .i64 0, .int .i64 0, .bool false, .bool false, .bool false, .bool false, .bool false, .bool false, .bool false] : Array Value)[i]? = some y) : w.cell? ⟨K, i, none⟩ = some y := by
  unfold World.cell?
  rw [h]
  simpa using hi
theorem zk_z {w : World} {K : Nat} (h : Zk w K) (i : Nat) : w.frozen? ⟨K, i, none⟩ = false := by simp [World.frozen?, h]
theorem one_ok (g : Fg) : (oneKey g).Ok := by unfold Ky.Ok oneKey; simp
theorem one_row (w : World) (g : Fg) : (w.alloc (.cells (oneKey g).cells 68)).ownsRow 0 68 11 (.slice (some ⟨w.heap.size, 0, none⟩) 1 1) 1 (kyCells [oneKey g]) := by
  refine ⟨rfl, .inr ⟨w.heap.size, 1, (oneKey g).cells, rfl, Nat.zero_le _, ?_, by decide, by decide, rfl, rfl⟩⟩
  rw [heap_al, if_pos rfl]
theorem Rw.one {w : World} {ob : Nat} {sep : Int} {kv : Value} {g : Fg} {wx : World} (h : Rw w ob sep kv g wx) : Rw w ob sep (.slice (some ⟨wx.heap.size, 0, none⟩) 1 1) g ((wx.alloc (.cells (oneKey g).cells 68)).setCell ⟨ob, 8, none⟩ (.slice (some ⟨wx.heap.size, 0, none⟩) 1 1)) ∧ ((wx.alloc (.cells (oneKey g).cells 68)).setCell ⟨ob, 8, none⟩ (.slice (some ⟨wx.heap.size, 0, none⟩) 1 1)).ownsRow 0 68 11 (.slice (some ⟨wx.heap.size, 0, none⟩) 1 1) 1 (kyCells [oneKey g]) := by
  have hl := (Array.getElem?_eq_some_iff.1 h.ob_).1
  have ho : (wx.alloc (.cells (oneKey g).cells 68)).heap[ob]? = some (.cells (mkO sep kv g) 61) := by rw [heap_al, if_neg (by omega)]; exact h.ob_
  refine ⟨h.turn ((Tn.alloc _ _).trans (Tn.set _ _ _ _)) (by rw [h_set ho]; simp [mkO]), rfl, .inr ⟨wx.heap.size, 1, (oneKey g).cells, rfl, Nat.zero_le _, ?_, by decide, by decide, rfl, rfl⟩⟩
  rw [Below.heap_setCell _ _ _ _ (show wx.heap.size ≠ ob by omega), heap_al, if_pos rfl]
def finS (g : Fg) (ks : List Ky) (so : Option ByteArray) : Option Od := match so with
  | none => some ⟨g, none, orOne g ks⟩
  | some a => if a.size = 1 then some ⟨g, a.data.toList.head?, orOne g ks⟩ else none
theorem readS_fin (l : Opts) (g : Fg) (ks : List Ky) (hg : flagsS l fg0 = g) (h : keysS g l [] = some ks) : readS l = finS g ks (lastS l 116) := by
  unfold readS finS
  rw [hg, h]
  rfl
theorem readS_none (l : Opts) (g : Fg) (hg : flagsS l fg0 = g) (h : keysS g l [] = none) : readS l = none := by
  unfold readS
  rw [hg, h]
  rfl
def RdTold (w : World) (r : Option Od) (e : Ending) (w' : World) : Prop := (match r with
  | none => e = .returned (.tuple #[.pointer none, .bool false])
  | some o => ∃ p, e = .returned (.tuple #[.pointer (some ⟨p, 0, none⟩), .bool true]) ∧ OrR w' p o) ∧ Below w.heap.size w w'

def Kp (a : ByteArray) (g : Fg) (b o OB : Nat) (w' : World) : Prop := w'.cell? ⟨b, o, none⟩ = some (.string a) ∧ w'.cell? ⟨OB, 0, none⟩ = some (.bool g.b) ∧ w'.cell? ⟨OB, 1, none⟩ = some (.bool g.e) ∧ w'.cell? ⟨OB, 2, none⟩ = some (.bool g.d) ∧ w'.cell? ⟨OB, 3, none⟩ = some (.bool g.f) ∧ w'.cell? ⟨OB, 4, none⟩ = some (.bool g.i) ∧ w'.cell? ⟨OB, 5, none⟩ = some (.bool g.n) ∧ w'.cell? ⟨OB, 6, none⟩ = some (.bool g.r)
theorem bl_set {N K i : Nat} {w w' : World} {v : Value} (h : Below N w w') (hK : N ≤ K) : Below N w (w'.setCell ⟨K, i, none⟩ v) := h.setCell (p := ⟨K, i, none⟩) hK v
theorem bl_al {w w' : World} {o : Obj} (h : Below w.heap.size w w') : Below w.heap.size w (w'.alloc o) := h.alloc h.size o
theorem Rw.bl2 {w : World} {ob : Nat} {sep : Int} {kv : Value} {g : Fg} {wx wy : World} (h : Rw w ob sep kv g wx) (hb : Below wx.heap.size wx wy) : Rw w ob sep kv g wy :=
  h.other (Tn.below (b := wx.heap.size) hb) (by have := (Array.getElem?_eq_some_iff.1 h.ob_).1; omega) h.bl.size
theorem ar_A2 {wr w2 : World} {o : Obj} (hb2 : Below (wr.drew.alloc o).heap.size (wr.drew.alloc o) w2) : w2.heap[wr.heap.size]? = some o ∧ Below wr.heap.size wr w2 := by
  have h1 : Below wr.drew.heap.size wr.drew w2 := below_new hb2
  refine ⟨?_, ar_B h1⟩
  show w2.heap[wr.drew.heap.size]? = some o
  rw [hb2.block wr.drew.heap.size (by simp), heap_al, if_pos rfl]
theorem keyS_ok {s : List UInt8} {wh : Fg} {q : Ky} (h : keyS s wh = some q) : q.Ok := by
  unfold keyS at h
  rcases hp : placeS (s.takeWhile notComma) fg0 false with _ | p
  · rw [hp] at h; cases h
  · rw [hp, Option.bind_some] at h
    have a := placeS_ok hp
    by_cases hd : s.dropWhile notComma = []
    · rw [if_pos hd] at h
      cases h
      exact ⟨a.1.1, a.1.2, a.2.1.1, a.2.1.2, show (0 : Int) ≤ 0 by decide, show (0 : Int) ≤ 2147483647 by decide, show (0 : Int) ≤ 0 by decide, show (0 : Int) ≤ 2147483647 by decide⟩
    · rw [if_neg hd] at h
      rcases hr : placeS ((s.dropWhile notComma).drop 1) p.2.2.2 true with _ | r
      · rw [hr] at h; cases h
      · rw [hr] at h
        cases h
        have b := placeS_ok hr
        exact ⟨a.1.1, a.1.2, a.2.1.1, a.2.1.2, show 0 ≤ r.1 by have := b.1.1; omega, b.1.2, b.2.1.1, b.2.1.2⟩
theorem info_kz : (Tryd.prog.info? 68).map (fun i => (i.zero, i.size, i.bytes)) = some (some (.agg #[.int .i64 0, .int .i64 0, .int .i64 0, .int .i64 0, .bool false, .bool false, .bool false, .bool false, .bool false, .bool false, .bool false]), 11, 40) := by kernel_rfl
theorem news_al (w : World) (cs : Array Value) (t : Nat) : ∀ j u, cs.toList[j]? = some u → (w.drew.alloc (.cells cs t)).cell? ((⟨w.heap.size, 0, none⟩ : Addr).add j) = some u :=
  World.news_of_block (by rw [heap_al]; exact if_pos rfl)
/-- One key more. -/
theorem Rw.snoc {w : World} {ob : Nat} {sep : Int} {g : Fg} {wx w2 : World} {o : Obj} {x : Option Addr} {c gg cap2 : Nat} {ks : List Ky} {q : Ky} (h : Rw w ob sep (.slice x ks.length c) g wx) (hk : wx.ownsRow (ob + 1) 68 11 (.slice x ks.length c) ks.length (kyCells ks))
    (hgrow : (wx.drew.alloc o).grownBy w2 (Value.slice x ks.length c).ownBlock) (hown : w2.ownsRow (ob + 1) 68 11 (.slice (some ⟨gg, 0, none⟩) (ks.length + 1) cap2) (ks.length + 1) (kyCells ks ++ q.cells.toList)) :
    w2.cell? ⟨ob, 8, none⟩ = some (.slice x ks.length c) ∧ w2.frozen? ⟨ob, 8, none⟩ = false ∧ Rw w ob sep (.slice (some ⟨gg, 0, none⟩) (ks.length + 1) cap2) g (w2.setCell ⟨ob, 8, none⟩ (.slice (some ⟨gg, 0, none⟩) (ks.length + 1) cap2)) ∧ (w2.setCell ⟨ob, 8, none⟩ (.slice (some ⟨gg, 0, none⟩) (ks.length + 1) cap2)).ownsRow (ob + 1) 68 11 (.slice (some ⟨gg, 0, none⟩) (ks.length + 1) cap2) (ks ++ [q]).length (kyCells (ks ++ [q])) := by
  have hl := (Array.getElem?_eq_some_iff.1 h.ob_).1
  have hg := h.ge
  have hb : Below (ob + 1) wx w2 := ((Below.refl (ob + 1) wx).drew.alloc hl o).grown hgrow (by simp; omega) (fun j ej => own_ge2 hk j ej)
  have ho : w2.heap[ob]? = some (.cells (mkO sep (.slice x ks.length c) g) 61) := (hb.block ob (Nat.lt_succ_self ob)).trans h.ob_
  refine ⟨(hb.cell (p := ⟨ob, 8, none⟩) (Nat.lt_succ_self ob)).trans (h.c 8 rfl), by simp [World.frozen?, ho], ⟨by rw [h_set ho]; simp [mkO], (h.bl.trans (hb.mono (by omega))).setCell (p := ⟨ob, 8, none⟩) hg _, hg⟩, ?_⟩
  rw [kyCells_snoc, List.length_append, List.length_singleton]
  exact own_tn hown (Tn.set _ _ _ _) (.inr (Nat.lt_succ_self ob))
set_option maxHeartbeats 6000000 in
set_option maxRecDepth 100000 in
theorem read_c (v : Value) (l : Opts) (w : World) (hl : l.length ≤ 2097152) (hq : ∀ q ∈ l, q.2.size ≤ 2097152) (hO : OpAt w v l) :
    Calls Tryd.prog 9 #[v] w fun e w' => RdTold w (readS l) e w' := by
  obtain ⟨x, cp, rfl⟩ : ∃ x c, v = .slice x l.length c := by
    rcases hO with ⟨rfl, rfl⟩ | ⟨b, off, cap, rfl, _⟩
    · exact ⟨none, 0, rfl⟩
    · exact ⟨_, _, rfl⟩
  have HO := Lib.hid hO
  have HQ := Lib.hid hq
  clear hO hq
  generalize hn : l.length = n at hl HO ⊢
  have HN := Lib.hid hn
  clear hn
  go_enter Tryd.func9, Tryd.ntmps9
  go_wp2_with fail
  go_loopw [5] (fun iv wr => ∃ (k : Nat) (g : Fg), k ≤ n ∧ iv = .int .i64 k ∧ Hid (flagsS l fg0 = flagsS (l.drop k) g) ∧ Hid (Rw w w.heap.size (-1) (.slice none 0 0) g wr)) (fun iv _ => n - (intOf iv).toNat)
  case atStart => exact ⟨0, fg0, by omega, rfl, (show _ = _ from rfl), ⟨by rw [heap_al, if_pos rfl]; rfl, (Below.refl w.heap.size w).alloc (Nat.le_refl _) _, Nat.le_refl _⟩⟩
  case round =>
    obtain ⟨k, g, hk, rfl, HF, HR⟩ := hrel
    by_cases hlt : k < n
    · obtain ⟨b, off, cap, hx, hcap, hb, hc⟩ := (show ∃ b off cap, Value.slice x n cp = .slice (some ⟨b, off, none⟩) n cap ∧ (n ≤ cap ∧ cap ≤ 9223372036854775807) ∧ b < w.heap.size ∧ ∀ j, j < n → w.cell? ⟨b, off + j * 2, none⟩ = some (.int .u8 ((nthO l j).1.toNat : Int)) ∧ w.cell? ⟨b, off + j * 2 + 1, none⟩ = some (.string (nthO l j).2) from by
        have hn := HN.out
        rcases HO.out with ⟨_, h2⟩ | h
        · rw [h2] at hn; simp at hn; omega
        · rw [hn] at h; exact h)
      cases hx
      have hcx : wr.cell? ⟨b, off + k * 2, none⟩ = some (.int .u8 ((nthO l k).1.toNat : Int)) := (HR.out.bl.cell (p := ⟨b, off + k * 2, none⟩) hb).trans (hc k hlt).1
      have hst := HF.out
      rw [flagsS_drop l k (by rw [HN.out]; exact hlt)] at hst
      have HF2 := Lib.hid hst
      clear hc hst HF
      generalize (nthO l k).1 = y at hcx HF2
      have o0 : wr.cell? ⟨w.heap.size, 0, none⟩ = some (.bool g.b) := HR.out.c 0 rfl
      go_upto_region 5 with fail
      go_cut [6] (fun v wx => ∃ (is : Bool) (gg : Fg), v = .bool is ∧ ((is = true ∧ flagS g y false = some gg) ∨ (is = false ∧ gg = g ∧ flagS g y false = none)) ∧ Hid (Rw w w.heap.size (-1) (.slice none 0 0) gg wx))
      case first =>
        clear HF2
        have HRd : Hid (Rw w w.heap.size (-1) (.slice none 0 0) g wr.drew) := HR.out.turn (Tn.refl _ _).drew HR.out.ob_
        by_cases hy1 : y = 107
        · have e1 : ((y.toNat : Int) != 107) = false := by rw [hy1]; rfl
          have n1 : y.toNat = 107 := by rw [hy1]; rfl
          have HY : Hid (flagS g y false = none) := by show _ = _; rw [hy1]; rfl
          clear hy1
          go_region
          go_wp2_with fail
          go_meet
          case rel => exact ⟨false, g, rfl, .inr ⟨rfl, rfl, HY.out⟩, HRd⟩
        by_cases hy2 : y = 116
        · have e1 : ((y.toNat : Int) != 107) = true := by rw [hy2]; rfl
          have e2 : ((y.toNat : Int) != 116) = false := by rw [hy2]; rfl
          have n1 : y.toNat = 116 := by rw [hy2]; rfl
          have HY : Hid (flagS g y false = none) := by show _ = _; rw [hy2]; rfl
          clear hy2 hy1
          go_region
          go_wp2_with fail
          go_meet
          case rel => exact ⟨false, g, rfl, .inr ⟨rfl, rfl, HY.out⟩, HRd⟩
        have q1 : ((y.toNat : Int) == 107) = false := u8_no 107 (by omega) hy1
        have q2 : ((y.toNat : Int) == 116) = false := u8_no 116 (by omega) hy2
        have e1 : ((y.toNat : Int) != 107) = true := by rw [bne, q1]; rfl
        have e2 : ((y.toNat : Int) != 116) = true := by rw [bne, q2]; rfl
        have n1 : ¬ y.toNat = 107 := fun e => hy1 (UInt8.toNat_inj.1 (by rw [e]; rfl))
        have n2 : ¬ y.toNat = 116 := fun e => hy2 (UInt8.toNat_inj.1 (by rw [e]; rfl))
        have hfl := flag_m (mk_O (-1) (.slice none 0 0)) w.heap.size 61 g y false wr.drew HR.out.ob_
        clear hy1 hy2
        cases hfs : flagS g y false with
        | none =>
          rw [hfs] at hfl
          simp only [Option.isSome_none, Option.getD_none] at hfl
          go_region_held3 (fun w' => w'.cell? ⟨b, off + k * 2, none⟩ = some (.int .u8 (y.toNat : Int))) (first | go_keep | exact hcx2) (first | (go_at_call 23; refine hfl.mono ?_; rintro e w2 ⟨rfl, hf2, ht2⟩; have HR2 := Lib.hid (HRd.out.turn ht2 hf2); have hcx2 : w2.cell? ⟨b, off + k * 2, none⟩ = some (.int .u8 (y.toNat : Int)) := (World.cell?_of_block (ht2.block b (show b < wr.drew.heap.size from Nat.lt_of_lt_of_le hb HR.out.bl.size) (by omega))).trans hcx; clear hf2 ht2))
          all_goals
            go_wp2_with fail
            go_meet
            case rel => exact ⟨false, g, rfl, .inr ⟨rfl, rfl, hfs⟩, HR2⟩
        | some h =>
          rw [hfs] at hfl
          simp only [Option.isSome_some, Option.getD_some] at hfl
          go_region_held3 (fun w' => w'.cell? ⟨b, off + k * 2, none⟩ = some (.int .u8 (y.toNat : Int))) (first | go_keep | exact hcx2) (first | (go_at_call 23; refine hfl.mono ?_; rintro e w2 ⟨rfl, hf2, ht2⟩; have HR2 := Lib.hid (HRd.out.turn ht2 hf2); have hcx2 : w2.cell? ⟨b, off + k * 2, none⟩ = some (.int .u8 (y.toNat : Int)) := (World.cell?_of_block (ht2.block b (show b < wr.drew.heap.size from Nat.lt_of_lt_of_le hb HR.out.bl.size) (by omega))).trans hcx; clear hf2 ht2))
          all_goals
            go_wp2_with fail
            go_meet
            case rel => exact ⟨true, h, rfl, .inl ⟨rfl, hfs⟩, HR2⟩
      case rest =>
        obtain ⟨is, gg, rfl, hcase, HR2⟩ := hcut
        clear hcx o0 HR
        rcases hcase with ⟨rfl, hfs⟩ | ⟨rfl, rfl, hfs⟩
        · have o0 : wc.cell? ⟨w.heap.size, 0, none⟩ = some (.bool gg.b) := HR2.out.c 0 rfl
          have o1 : wc.cell? ⟨w.heap.size, 1, none⟩ = some (.bool gg.e) := HR2.out.c 1 rfl
          have z1 := HR2.out.z 1
          have HR3 : Hid (Rw w w.heap.size (-1) (.slice none 0 0) { gg with e := gg.b } (wc.setCell ⟨w.heap.size, 1, none⟩ (.bool gg.b))) := HR2.out.turn (Tn.set _ _ _ _) (by rw [h_set HR2.out.ob_]; simp [mkO])
          have HF3 : Hid (flagsS l fg0 = flagsS (l.drop (k + 1)) { gg with e := gg.b }) := by show _ = _; rw [HF2.out]; unfold flag1; rw [hfs]
          clear HF2
          go_wp2_with fail
          exact ⟨⟨k + 1, _, by omega, by go_num, HF3, HR3⟩, by simp [intOf]; omega⟩
        · have HF3 : Hid (flagsS l fg0 = flagsS (l.drop (k + 1)) gg) := by show _ = _; rw [HF2.out]; unfold flag1; rw [hfs]
          clear HF2
          go_wp2_with fail
          exact ⟨⟨k + 1, gg, by omega, by go_num, HF3, HR2⟩, by simp [intOf]; omega⟩
    · have HG : Hid (flagsS l fg0 = g) := by
        show _ = _
        rw [HF.out, List.drop_eq_nil_of_le (by rw [HN.out]; omega)]
        rfl
      clear HF
      obtain ⟨OB, hOB⟩ : ∃ R, w.heap.size = R := ⟨_, rfl⟩
      rw [hOB] at HR ⊢
      go_wp2_with fail
      go_loopw [7, 8, 9] (fun sv hv iv wr => ∃ (k : Nat) (ks : List Ky) (kv : Value) (so : Option ByteArray), k ≤ n ∧ iv = .int .i64 k ∧ sv = .string (so.getD ⟨#[]⟩) ∧ hv = .bool so.isSome ∧ Hid (lastS (l.take k) 116 = so) ∧ Hid (keysS g l [] = keysS g (l.drop k) ks) ∧ ks.length ≤ k ∧ Hid (∀ y ∈ ks, y.Ok) ∧ Hid (Rw w OB (-1) kv g wr) ∧ Hid (wr.ownsRow (OB + 1) 68 11 kv ks.length (kyCells ks))) (fun _ _ iv _ => n - (intOf iv).toNat)
      case atStart => exact ⟨0, [], .slice none 0 0, none, by omega, rfl, rfl, rfl, (show lastS (l.take 0) 116 = none by simp [lastS]), (show _ = _ from rfl), by simp, (show ∀ y ∈ ([] : List Ky), y.Ok by simp), HR, World.ownsRow_nil _ _ _ _⟩
      case round =>
        obtain ⟨k2, ks, kv, so, hk2, rfl, rfl, rfl, HL, HKS, hkl, HOk, HR2, HKs⟩ := hrel
        clear HR
        by_cases hlt2 : k2 < n
        · obtain ⟨b, off, cap, hx, hcap, hb, hc⟩ := (show ∃ b off cap, Value.slice x n cp = .slice (some ⟨b, off, none⟩) n cap ∧ (n ≤ cap ∧ cap ≤ 9223372036854775807) ∧ b < w.heap.size ∧ ∀ j, j < n → w.cell? ⟨b, off + j * 2, none⟩ = some (.int .u8 ((nthO l j).1.toNat : Int)) ∧ w.cell? ⟨b, off + j * 2 + 1, none⟩ = some (.string (nthO l j).2) from by
            have hn := HN.out
            rcases HO.out with ⟨_, h2⟩ | h
            · rw [h2] at hn; simp at hn; omega
            · rw [hn] at h; exact h)
          cases hx
          have hcx : wr.cell? ⟨b, off + k2 * 2, none⟩ = some (.int .u8 ((nthO l k2).1.toNat : Int)) := (HR2.out.bl.cell (p := ⟨b, off + k2 * 2, none⟩) hb).trans (hc k2 hlt2).1
          have hca : wr.cell? ⟨b, off + k2 * 2 + 1, none⟩ = some (.string (nthO l k2).2) := (HR2.out.bl.cell (p := ⟨b, off + k2 * 2 + 1, none⟩) hb).trans (hc k2 hlt2).2
          have hkd : k2 < l.length := by rw [HN.out]; exact hlt2
          have hst := HKS.out
          rw [keysS_drop g l k2 hkd] at hst
          have HL2 := Lib.hid (lastS_step l 116 k2 hkd)
          rw [HL.out] at HL2
          have hasz : (nthO l k2).2.size ≤ 2097152 := HQ.out _ (by simp [nthO, hkd])
          have HS2 := Lib.hid hst
          clear hc hst HKS HL hcap
          generalize (nthO l k2).1 = y at hcx HS2 HL2
          generalize (nthO l k2).2 = a at hca HS2 HL2 hasz
          by_cases hy1 : y = 116
          · have e1 : ((y.toNat : Int) == 116) = true := by rw [hy1]; rfl
            have e2 : ((y.toNat : Int) == 107) = false := by rw [hy1]; rfl
            have n1 : y.toNat = 116 := by rw [hy1]; rfl
            have HL3 : Hid (lastS (l.take (k2 + 1)) 116 = some a) := by show _ = _; rw [HL2.out, if_pos hy1]
            have HS3 : Hid (keysS g l [] = keysS g (l.drop (k2 + 1)) ks) := by show _ = _; rw [HS2.out, if_neg (by rw [hy1]; decide)]
            clear HL2 HS2 hy1
            go_wp2_with fail
            exact ⟨⟨k2 + 1, ks, kv, some a, by omega, by go_num, rfl, rfl, HL3, HS3, by omega, HOk, HR2, HKs⟩, by simp [intOf]; omega⟩
          · have e1 : ((y.toNat : Int) == 116) = false := u8_no 116 (by omega) hy1
            have n1 : ¬ y.toNat = 116 := fun e => hy1 (UInt8.toNat_inj.1 (by rw [e]; rfl))
            have HL3 : Hid (lastS (l.take (k2 + 1)) 116 = so) := by show _ = _; rw [HL2.out, if_neg hy1]
            clear HL2 hy1
            by_cases hy2 : y = 107
            · have e2 : ((y.toNat : Int) == 107) = true := by rw [hy2]; rfl
              have n2 : y.toNat = 107 := by rw [hy2]; rfl
              have HS3 : Hid (keysS g l [] = (keyS a.data.toList g).bind fun q => keysS g (l.drop (k2 + 1)) (ks ++ [q])) := by show _ = _; rw [HS2.out, if_pos hy2]
              clear HS2 hy2
              have c0 : wr.cell? ⟨OB, 0, none⟩ = some (.bool g.b) := HR2.out.c 0 rfl
              have c1 : wr.cell? ⟨OB, 1, none⟩ = some (.bool g.e) := HR2.out.c 1 rfl
              have c2 : wr.cell? ⟨OB, 2, none⟩ = some (.bool g.d) := HR2.out.c 2 rfl
              have c3 : wr.cell? ⟨OB, 3, none⟩ = some (.bool g.f) := HR2.out.c 3 rfl
              have c4 : wr.cell? ⟨OB, 4, none⟩ = some (.bool g.i) := HR2.out.c 4 rfl
              have c5 : wr.cell? ⟨OB, 5, none⟩ = some (.bool g.n) := HR2.out.c 5 rfl
              have c6 : wr.cell? ⟨OB, 6, none⟩ = some (.bool g.r) := HR2.out.c 6 rfl
              have hkc := fun u => key_c a g u hasz
              unfold Fg.val KyTold at hkc
              simp only [Fg.cells] at hkc
              go_upto_region 17 with fail
              go_cut [10, 11] (fun pv okv wx => ∃ (ok : Bool) (kb : Nat), okv = .bool ok ∧ pv = .pointer (some ⟨kb, 0, none⟩) ∧ Hid (Rw w OB (-1) kv g wx) ∧ Hid (wx.ownsRow (OB + 1) 68 11 kv ks.length (kyCells ks)) ∧ ((ok = true ∧ ∃ q, keyS a.data.toList g = some q ∧ wx.heap[kb]? = some (.cells q.cells 68)) ∨ (ok = false ∧ keyS a.data.toList g = none)))
              case first =>
                clear HS3 HL3
                have hobr : OB < wr.heap.size := (Array.getElem?_eq_some_iff.1 HR2.out.ob_).1
                have hbr : b < wr.heap.size := Nat.lt_of_lt_of_le hb HR2.out.bl.size
                have hge := HR2.out.ge
                have hbsz := HR2.out.bl.size
                have KK : ∀ {w' : World}, Below wr.heap.size wr w' → Kp a g b (off + k2 * 2 + 1) OB w' := fun h => ⟨(h.cell (p := ⟨b, off + k2 * 2 + 1, none⟩) hbr).trans hca, (h.cell (p := ⟨OB, 0, none⟩) hobr).trans c0, (h.cell (p := ⟨OB, 1, none⟩) hobr).trans c1, (h.cell (p := ⟨OB, 2, none⟩) hobr).trans c2, (h.cell (p := ⟨OB, 3, none⟩) hobr).trans c3, (h.cell (p := ⟨OB, 4, none⟩) hobr).trans c4, (h.cell (p := ⟨OB, 5, none⟩) hobr).trans c5, (h.cell (p := ⟨OB, 6, none⟩) hobr).trans c6⟩
                have HRB : ∀ {w' : World}, Below wr.heap.size wr w' → Hid (Rw w OB (-1) kv g w') ∧ Hid (w'.ownsRow (OB + 1) 68 11 kv ks.length (kyCells ks)) := fun h => ⟨HR2.out.bl2 h, own_below HKs.out h⟩
                clear HR2 HKs
                cases hks : keyS a.data.toList g with
                | none =>
                  rw [hks] at hkc
                  go_region_held3 (fun w' => w'.cell? ⟨b, off + k2 * 2 + 1, none⟩ = some (.string a) ∧ w'.cell? ⟨OB, 0, none⟩ = some (.bool g.b) ∧ w'.cell? ⟨OB, 1, none⟩ = some (.bool g.e) ∧ w'.cell? ⟨OB, 2, none⟩ = some (.bool g.d) ∧ w'.cell? ⟨OB, 3, none⟩ = some (.bool g.f) ∧ w'.cell? ⟨OB, 4, none⟩ = some (.bool g.i) ∧ w'.cell? ⟨OB, 5, none⟩ = some (.bool g.n) ∧ w'.cell? ⟨OB, 6, none⟩ = some (.bool g.r)) (first | (refine KK ?_; (repeat (first | with_reducible assumption | with_reducible refine bl_set ?_ (by first | assumption | exact Nat.le_refl _ | omega) | with_reducible refine bl_al ?_ | with_reducible refine Below.drew ?_ | with_reducible exact Below.refl _ _))) | go_keep) (first
                    | (go_at_call 24; refine (hkc _).mono ?_; rintro e w2 ⟨⟨m1, m2, m3, m4, g3, rfl⟩, hb2⟩; unfold mkK; have HB2 : Below wr.heap.size wr w2 := ar_B (wr := wr) hb2; have hsz2 : wr.heap.size ≤ w2.heap.size := HB2.size; clear hb2)
                    | (go_at_call 24; refine (hkc _).mono ?_; rintro e w2 ⟨⟨m1, m2, m3, m4, g3, rfl⟩, hb2⟩; unfold mkK; have HA := Lib.hid (ar_A2 (wr := wr) hb2); have HB2 : Below wr.heap.size wr w2 := HA.out.2; have hsz2 : wr.heap.size ≤ w2.heap.size := HB2.size; have t0 : w2.cell? ⟨wr.heap.size, 0, none⟩ = some (.int .i64 0) := zk_c HA.out.1 0 rfl; have u0 := zk_z HA.out.1 0; have t1 : w2.cell? ⟨wr.heap.size, 1, none⟩ = some (.int .i64 0) := zk_c HA.out.1 1 rfl; have u1 := zk_z HA.out.1 1; have t2 : w2.cell? ⟨wr.heap.size, 2, none⟩ = some (.int .i64 0) := zk_c HA.out.1 2 rfl; have u2 := zk_z HA.out.1 2; have t3 : w2.cell? ⟨wr.heap.size, 3, none⟩ = some (.int .i64 0) := zk_c HA.out.1 3 rfl; have u3 := zk_z HA.out.1 3; have t4 : w2.cell? ⟨wr.heap.size, 4, none⟩ = some (.bool false) := zk_c HA.out.1 4 rfl; have u4 := zk_z HA.out.1 4; have t5 : w2.cell? ⟨wr.heap.size, 5, none⟩ = some (.bool false) := zk_c HA.out.1 5 rfl; have u5 := zk_z HA.out.1 5; have t6 : w2.cell? ⟨wr.heap.size, 6, none⟩ = some (.bool false) := zk_c HA.out.1 6 rfl; have u6 := zk_z HA.out.1 6; have t7 : w2.cell? ⟨wr.heap.size, 7, none⟩ = some (.bool false) := zk_c HA.out.1 7 rfl; have u7 := zk_z HA.out.1 7; have t8 : w2.cell? ⟨wr.heap.size, 8, none⟩ = some (.bool false) := zk_c HA.out.1 8 rfl; have u8 := zk_z HA.out.1 8; have t9 : w2.cell? ⟨wr.heap.size, 9, none⟩ = some (.bool false) := zk_c HA.out.1 9 rfl; have u9 := zk_z HA.out.1 9; have t10 : w2.cell? ⟨wr.heap.size, 10, none⟩ = some (.bool false) := zk_c HA.out.1 10 rfl; have u10 := zk_z HA.out.1 10; clear hb2))
                  all_goals
                    go_wp2_with fail
                    go_meet
                    case rel =>
                      refine ⟨false, _, rfl, rfl, (HRB ?_).1, (HRB ?_).2, .inr ⟨rfl, hks⟩⟩ <;> (repeat (first | with_reducible assumption | with_reducible refine bl_set ?_ (by first | assumption | exact Nat.le_refl _ | omega) | with_reducible refine bl_al ?_ | with_reducible refine Below.drew ?_ | with_reducible exact Below.refl _ _))
                | some q =>
                  rw [hks] at hkc
                  go_region_held3 (fun w' => w'.cell? ⟨b, off + k2 * 2 + 1, none⟩ = some (.string a) ∧ w'.cell? ⟨OB, 0, none⟩ = some (.bool g.b) ∧ w'.cell? ⟨OB, 1, none⟩ = some (.bool g.e) ∧ w'.cell? ⟨OB, 2, none⟩ = some (.bool g.d) ∧ w'.cell? ⟨OB, 3, none⟩ = some (.bool g.f) ∧ w'.cell? ⟨OB, 4, none⟩ = some (.bool g.i) ∧ w'.cell? ⟨OB, 5, none⟩ = some (.bool g.n) ∧ w'.cell? ⟨OB, 6, none⟩ = some (.bool g.r)) (first | (refine KK ?_; (repeat (first | with_reducible assumption | with_reducible refine bl_set ?_ (by first | assumption | exact Nat.le_refl _ | omega) | with_reducible refine bl_al ?_ | with_reducible refine Below.drew ?_ | with_reducible exact Below.refl _ _))) | go_keep) (first
                    | (go_at_call 24; refine (hkc _).mono ?_; rintro e w2 ⟨rfl, hb2⟩; unfold Ky.cells; have HB2 : Below wr.heap.size wr w2 := ar_B (wr := wr) hb2; have hsz2 : wr.heap.size ≤ w2.heap.size := HB2.size; clear hb2)
                    | (go_at_call 24; refine (hkc _).mono ?_; rintro e w2 ⟨rfl, hb2⟩; unfold Ky.cells; have HA := Lib.hid (ar_A2 (wr := wr) hb2); have HB2 : Below wr.heap.size wr w2 := HA.out.2; have hsz2 : wr.heap.size ≤ w2.heap.size := HB2.size; have t0 : w2.cell? ⟨wr.heap.size, 0, none⟩ = some (.int .i64 0) := zk_c HA.out.1 0 rfl; have u0 := zk_z HA.out.1 0; have t1 : w2.cell? ⟨wr.heap.size, 1, none⟩ = some (.int .i64 0) := zk_c HA.out.1 1 rfl; have u1 := zk_z HA.out.1 1; have t2 : w2.cell? ⟨wr.heap.size, 2, none⟩ = some (.int .i64 0) := zk_c HA.out.1 2 rfl; have u2 := zk_z HA.out.1 2; have t3 : w2.cell? ⟨wr.heap.size, 3, none⟩ = some (.int .i64 0) := zk_c HA.out.1 3 rfl; have u3 := zk_z HA.out.1 3; have t4 : w2.cell? ⟨wr.heap.size, 4, none⟩ = some (.bool false) := zk_c HA.out.1 4 rfl; have u4 := zk_z HA.out.1 4; have t5 : w2.cell? ⟨wr.heap.size, 5, none⟩ = some (.bool false) := zk_c HA.out.1 5 rfl; have u5 := zk_z HA.out.1 5; have t6 : w2.cell? ⟨wr.heap.size, 6, none⟩ = some (.bool false) := zk_c HA.out.1 6 rfl; have u6 := zk_z HA.out.1 6; have t7 : w2.cell? ⟨wr.heap.size, 7, none⟩ = some (.bool false) := zk_c HA.out.1 7 rfl; have u7 := zk_z HA.out.1 7; have t8 : w2.cell? ⟨wr.heap.size, 8, none⟩ = some (.bool false) := zk_c HA.out.1 8 rfl; have u8 := zk_z HA.out.1 8; have t9 : w2.cell? ⟨wr.heap.size, 9, none⟩ = some (.bool false) := zk_c HA.out.1 9 rfl; have u9 := zk_z HA.out.1 9; have t10 : w2.cell? ⟨wr.heap.size, 10, none⟩ = some (.bool false) := zk_c HA.out.1 10 rfl; have u10 := zk_z HA.out.1 10; clear hb2))
                  · go_wp2_with fail
                    go_meet
                    case rel =>
                      refine ⟨true, _, rfl, rfl, (HRB ?_).1, (HRB ?_).2, .inl ⟨rfl, q, hks, ?_⟩⟩
                      · (repeat (first | with_reducible assumption | with_reducible refine bl_set ?_ (by first | assumption | exact Nat.le_refl _ | omega) | with_reducible refine bl_al ?_ | with_reducible refine Below.drew ?_ | with_reducible exact Below.refl _ _))
                      · (repeat (first | with_reducible assumption | with_reducible refine bl_set ?_ (by first | assumption | exact Nat.le_refl _ | omega) | with_reducible refine bl_al ?_ | with_reducible refine Below.drew ?_ | with_reducible exact Below.refl _ _))
                      · rw [heap_al, if_pos rfl]; rfl
                  · go_wp2_with fail
                    go_meet
                    case rel =>
                      refine ⟨true, _, rfl, rfl, (HRB ?_).1, (HRB ?_).2, .inl ⟨rfl, q, hks, ?_⟩⟩
                      · (repeat (first | with_reducible assumption | with_reducible refine bl_set ?_ (by first | assumption | exact Nat.le_refl _ | omega) | with_reducible refine bl_al ?_ | with_reducible refine Below.drew ?_ | with_reducible exact Below.refl _ _))
                      · (repeat (first | with_reducible assumption | with_reducible refine bl_set ?_ (by first | assumption | exact Nat.le_refl _ | omega) | with_reducible refine bl_al ?_ | with_reducible refine Below.drew ?_ | with_reducible exact Below.refl _ _))
                      · exact (setL_at wr.heap.size 68 [.int .i64 q.f1, .int .i64 q.c1, .int .i64 q.f2, .int .i64 q.c2, .bool q.fl.b, .bool q.fl.e, .bool q.fl.d, .bool q.fl.f, .bool q.fl.i, .bool q.fl.n, .bool q.fl.r] 0 w2 _ HA.out.1).trans (by simp [setC, Ky.cells])
              case rest =>
                obtain ⟨ok, kb, rfl, rfl, HR4, HK4, hcase⟩ := hcut
                clear HR2 HKs hkc
                rcases hcase with ⟨rfl, q, hks, hkb⟩ | ⟨rfl, hks⟩
                · obtain ⟨xk, ck, rfl⟩ := own_slice2 HK4.out
                  have hobc : OB < wc.heap.size := (Array.getElem?_eq_some_iff.1 HR4.out.ob_).1
                  have hge4 := HR4.out.ge
                  have k8 : wc.cell? ⟨OB, 8, none⟩ = some (.slice xk ks.length ck) := HR4.out.c 8 rfl
                  have k8d : ∀ o, (wc.drew.alloc o).cell? ⟨OB, 8, none⟩ = some (.slice xk ks.length ck) := fun o => (((Below.refl wc.heap.size wc).drew.alloc (Nat.le_refl _) o).cell (p := ⟨OB, 8, none⟩) hobc).trans k8
                  have t0 : wc.cell? ⟨kb, 0, none⟩ = some (.int .i64 q.f1) := by simp [World.cell?, hkb, Ky.cells]
                  have t1 : wc.cell? ⟨kb, 1, none⟩ = some (.int .i64 q.c1) := by simp [World.cell?, hkb, Ky.cells]
                  have t2 : wc.cell? ⟨kb, 2, none⟩ = some (.int .i64 q.f2) := by simp [World.cell?, hkb, Ky.cells]
                  have t3 : wc.cell? ⟨kb, 3, none⟩ = some (.int .i64 q.c2) := by simp [World.cell?, hkb, Ky.cells]
                  have t4 : wc.cell? ⟨kb, 4, none⟩ = some (.bool q.fl.b) := by simp [World.cell?, hkb, Ky.cells]
                  have t5 : wc.cell? ⟨kb, 5, none⟩ = some (.bool q.fl.e) := by simp [World.cell?, hkb, Ky.cells]
                  have t6 : wc.cell? ⟨kb, 6, none⟩ = some (.bool q.fl.d) := by simp [World.cell?, hkb, Ky.cells]
                  have t7 : wc.cell? ⟨kb, 7, none⟩ = some (.bool q.fl.f) := by simp [World.cell?, hkb, Ky.cells]
                  have t8 : wc.cell? ⟨kb, 8, none⟩ = some (.bool q.fl.i) := by simp [World.cell?, hkb, Ky.cells]
                  have t9 : wc.cell? ⟨kb, 9, none⟩ = some (.bool q.fl.n) := by simp [World.cell?, hkb, Ky.cells]
                  have t10 : wc.cell? ⟨kb, 10, none⟩ = some (.bool q.fl.r) := by simp [World.cell?, hkb, Ky.cells]
                  have HS4 : Hid (keysS g l [] = keysS g (l.drop (k2 + 1)) (ks ++ [q])) := by show _ = _; rw [HS3.out, hks]; rfl
                  have HOk4 : Hid (∀ y ∈ ks ++ [q], y.Ok) := by
                    show ∀ y ∈ ks ++ [q], y.Ok
                    intro y hy
                    rcases List.mem_append.1 hy with h | h
                    · exact HOk.out y h
                    · rw [List.mem_singleton.1 h]; exact keyS_ok hks
                  obtain ⟨i0, hi, hz0, hz1, hz2⟩ := info_parts2 info_kz
                  have hll : ks.length ≤ 2097152 := by omega
                  clear HS3 hks hkb HOk
                  go_upto_region 20 with fail
                  go_region_law (refine step_append_lies _ rfl _ _ 59 rfl (OB + 1) 68 i0 (.agg #[.int .i64 0, .int .i64 0, .int .i64 0, .int .i64 0, .bool false, .bool false, .bool false, .bool false, .bool false, .bool false, .bool false]) 11 40 Tryd.underlying59 hi hz0 hz1 hz2 rfl (by decide) (.slice xk ks.length ck) ks.length (kyCells ks) (by simp [Act.eval]) ((show wc.drew.ownsRow _ _ _ _ _ _ from HK4.out).alloc _) ⟨wc.heap.size, 0, none⟩ 1 1 q.cells.toList (by simp [Act.eval]) rfl (news_al wc q.cells _) (by simp [Ky.cells, Value.oneCell']) (by decide) (by unfold maxLen; omega) (by omega) (by simp; omega) _ rfl ?_; intro gg cap2 w2 hown2 hgrow2 hat hlt2; have hsnoc := HR4.out.snoc HK4.out hgrow2 hown2; have hk8 := hsnoc.1; have hz8 := hsnoc.2.1; have HR5 := Lib.hid hsnoc.2.2.1; have HK5 := Lib.hid hsnoc.2.2.2; clear hsnoc hown2 hgrow2 hat hlt2)
                  all_goals
                    go_wp2_with fail
                    exact ⟨⟨k2 + 1, ks ++ [q], _, so, by omega, by go_num, rfl, rfl, HL3, HS4, by simp; omega, HOk4, HR5, HK5⟩, by simp [intOf]; omega⟩
                · have HN2 : Hid (readS l = none) := by
                    show _ = _
                    refine readS_none l g HG.out ?_
                    rw [HS3.out, hks]
                    rfl
                  go_wp2_with fail
                  go_ret2
                  refine ⟨?_, HR4.out.bl⟩
                  rw [HN2.out]
                  exact rfl
            · have e2 : ((y.toNat : Int) == 107) = false := u8_no 107 (by omega) hy2
              have n2 : ¬ y.toNat = 107 := fun e => hy2 (UInt8.toNat_inj.1 (by rw [e]; rfl))
              have HS3 : Hid (keysS g l [] = keysS g (l.drop (k2 + 1)) ks) := by show _ = _; rw [HS2.out, if_neg hy2]
              clear HS2 hy2
              go_wp2_with fail
              exact ⟨⟨k2 + 1, ks, kv, so, by omega, by go_num, rfl, rfl, HL3, HS3, by omega, HOk, HR2, HKs⟩, by simp [intOf]; omega⟩
        · have hke : keysS g l [] = some ks := by rw [HKS.out, List.drop_eq_nil_of_le (by rw [HN.out]; omega)]; rfl
          have hso : lastS l 116 = so := by
            have := HL.out
            rw [List.take_of_length_le (by rw [HN.out]; omega)] at this
            exact this
          have HRS : Hid (readS l = finS g ks so) := by show _ = _; rw [readS_fin l g ks HG.out hke, hso]
          clear hke hso HL HKS HG
          have hkn : ks.length ≤ 2097152 := by omega
          have c0 : wr.cell? ⟨OB, 0, none⟩ = some (.bool g.b) := HR2.out.c 0 rfl
          have c1 : wr.cell? ⟨OB, 1, none⟩ = some (.bool g.e) := HR2.out.c 1 rfl
          have c2 : wr.cell? ⟨OB, 2, none⟩ = some (.bool g.d) := HR2.out.c 2 rfl
          have c3 : wr.cell? ⟨OB, 3, none⟩ = some (.bool g.f) := HR2.out.c 3 rfl
          have c4 : wr.cell? ⟨OB, 4, none⟩ = some (.bool g.i) := HR2.out.c 4 rfl
          have c5 : wr.cell? ⟨OB, 5, none⟩ = some (.bool g.n) := HR2.out.c 5 rfl
          have c6 : wr.cell? ⟨OB, 6, none⟩ = some (.bool g.r) := HR2.out.c 6 rfl
          have c7 : wr.cell? ⟨OB, 7, none⟩ = some (.int .i64 (-1)) := HR2.out.c 7 rfl
          have z7 := HR2.out.z 7
          obtain ⟨xk, ck, rfl⟩ := own_slice2 HKs.out
          have c8 : wr.cell? ⟨OB, 8, none⟩ = some (.slice xk ks.length ck) := HR2.out.c 8 rfl
          have z8 := HR2.out.z 8
          cases so with
          | none =>
            simp only [finS] at HRS
            by_cases hk0 : ks = []
            · subst hk0
              have c8a : ∀ o, (wr.alloc o).cell? ⟨OB, 8, none⟩ = some (.slice xk 0 ck) := fun o => ((Below.refl wr.heap.size wr).alloc (Nat.le_refl _) o).cell (p := ⟨OB, 8, none⟩) (Array.getElem?_eq_some_iff.1 HR2.out.ob_).1 |>.trans c8
              have z8a : ∀ o, (wr.alloc o).frozen? ⟨OB, 8, none⟩ = false := fun o => by
                have := (Array.getElem?_eq_some_iff.1 HR2.out.ob_).1
                simp [World.frozen?, heap_al, show ¬ OB = wr.heap.size by omega, HR2.out.ob_]
              go_wp2_with fail
              go_ret2
              have hon := HR2.out.one
              refine ⟨?_, hon.1.bl⟩
              rw [HRS.out]
              exact ⟨OB, rfl, hon.1.or (sep := none) hon.2 (by intro y hy; rw [List.mem_singleton.1 hy]; exact one_ok g) (show 1 ≤ 2097153 by decide)⟩
            · have hkl0 : ¬ ks.length = 0 := fun e => hk0 (List.length_eq_zero_iff.1 e)
              have ekl : ((ks.length : Int) == 0) = false := by rw [beq_eq_false_iff_ne]; omega
              go_wp2_with fail
              go_ret2
              refine ⟨?_, HR2.out.bl⟩
              rw [HRS.out]
              refine ⟨OB, rfl, ?_⟩
              have e : orOne g ks = ks := by unfold orOne; rw [if_neg hk0]
              rw [e]
              exact HR2.out.or (sep := none) HKs.out HOk.out (by omega)
          | some a =>
            simp only [finS] at HRS
            have hga : (some a : Option ByteArray).getD ⟨#[]⟩ = a := rfl
            by_cases ha1 : a.size = 1
            · rw [if_pos ha1] at HRS
              have hhd : a.data.toList.head? = some (a[0]'(by omega)) := by rw [show a.data.toList = a.data.toList.drop 0 from (List.drop_zero).symm, by_drop a 0 (by omega)]; rfl
              rw [hhd] at HRS
              have ea1 : ((a.size : Int) != 1) = false := by rw [ha1]; rfl
              have hy0 := (a[0]'(by omega)).toNat_lt
              generalize hyy : (a[0]'(by omega)) = y at HRS hy0
              have HR3 : Hid (Rw w OB (sepI (some y)) (.slice xk ks.length ck) g (wr.setCell ⟨OB, 7, none⟩ (.int .i64 (y.toNat : Int)))) := HR2.out.turn (Tn.set _ _ _ _) (by rw [h_set HR2.out.ob_]; simp [mkO, sepI])
              have HKs3 : Hid ((wr.setCell ⟨OB, 7, none⟩ (.int .i64 (y.toNat : Int))).ownsRow (OB + 1) 68 11 (.slice xk ks.length ck) ks.length (kyCells ks)) := by
                refine ⟨HKs.out.1, ?_⟩
                rcases HKs.out.2 with h | ⟨gg, cap, cur, h1, h2, h3, h4⟩
                · exact .inl h
                · exact .inr ⟨gg, cap, cur, h1, h2, (Below.heap_setCell _ _ _ _ (show gg ≠ OB by omega)).trans h3, h4⟩
              go_upto_region 25 with fail
              obtain ⟨wr1, hw1⟩ : ∃ W, wr.setCell ⟨OB, 7, none⟩ (.int .i64 (y.toNat : Int)) = W := ⟨_, rfl⟩
              rw [hw1] at HR3 HKs3 ⊢
              clear hw1 c0 c1 c2 c3 c4 c5 c6 c7 c8 z7 z8 HKs HR2
              have d0 : wr1.cell? ⟨OB, 0, none⟩ = some (.bool g.b) := HR3.out.c 0 rfl
              have d1 : wr1.cell? ⟨OB, 1, none⟩ = some (.bool g.e) := HR3.out.c 1 rfl
              have d2 : wr1.cell? ⟨OB, 2, none⟩ = some (.bool g.d) := HR3.out.c 2 rfl
              have d3 : wr1.cell? ⟨OB, 3, none⟩ = some (.bool g.f) := HR3.out.c 3 rfl
              have d4 : wr1.cell? ⟨OB, 4, none⟩ = some (.bool g.i) := HR3.out.c 4 rfl
              have d5 : wr1.cell? ⟨OB, 5, none⟩ = some (.bool g.n) := HR3.out.c 5 rfl
              have d6 : wr1.cell? ⟨OB, 6, none⟩ = some (.bool g.r) := HR3.out.c 6 rfl
              have d8 : wr1.cell? ⟨OB, 8, none⟩ = some (.slice xk ks.length ck) := HR3.out.c 8 rfl
              have y8 := HR3.out.z 8
              by_cases hk0 : ks = []
              · subst hk0
                have d8a : ∀ o, (wr1.alloc o).cell? ⟨OB, 8, none⟩ = some (.slice xk 0 ck) := fun o => ((Below.refl wr1.heap.size wr1).alloc (Nat.le_refl _) o).cell (p := ⟨OB, 8, none⟩) (Array.getElem?_eq_some_iff.1 HR3.out.ob_).1 |>.trans d8
                have y8a : ∀ o, (wr1.alloc o).frozen? ⟨OB, 8, none⟩ = false := fun o => by
                  have := (Array.getElem?_eq_some_iff.1 HR3.out.ob_).1
                  simp [World.frozen?, heap_al, show ¬ OB = wr1.heap.size by omega, HR3.out.ob_]
                go_wp2_with fail
                go_ret2
                have hon := HR3.out.one
                refine ⟨?_, hon.1.bl⟩
                rw [HRS.out]
                exact ⟨OB, rfl, hon.1.or (sep := some y) hon.2 (by intro q hq; rw [List.mem_singleton.1 hq]; exact one_ok g) (show 1 ≤ 2097153 by decide)⟩
              · have hkl0 : ¬ ks.length = 0 := fun e => hk0 (List.length_eq_zero_iff.1 e)
                have ekl : ((ks.length : Int) == 0) = false := by rw [beq_eq_false_iff_ne]; omega
                go_wp2_with fail
                go_ret2
                refine ⟨?_, HR3.out.bl⟩
                rw [HRS.out]
                refine ⟨OB, rfl, ?_⟩
                have e : orOne g ks = ks := by unfold orOne; rw [if_neg hk0]
                rw [e]
                exact HR3.out.or (sep := some y) HKs3.out HOk.out (by omega)
            · rw [if_neg ha1] at HRS
              have ea1 : ((a.size : Int) != 1) = true := by simp; omega
              have na1 : ¬ (a.size : Int) = 1 := by omega
              go_wp2_with fail
              go_ret2
              refine ⟨?_, HR2.out.bl⟩
              rw [HRS.out]
              exact rfl
end Go.Proofs.YtdgnbcbcfgfkmaaDoor
