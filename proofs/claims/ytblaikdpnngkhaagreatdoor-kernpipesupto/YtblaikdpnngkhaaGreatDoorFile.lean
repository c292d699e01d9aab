/- A file as it is told: its bytes in memory of its own, its names, how often it is held. -/
import Derived.Test.YtblaikdpnngkhaaGreatDoorData2
namespace Go.Proofs.YtblaikdpnngkhaaGreatDoor
open Go.RowKit Go.Shelf Go.Maps

/-- Bytes that a slice holds, in a block below B; or there is none. -/
def Src (B : Nat) (w : World) (v : Value) (bs : List UInt8) : Prop :=
  ∃ a cap, v = .slice a bs.length cap ∧ bs.length ≤ cap ∧ (bs.length = 0 ∨ ∃ b o, a = some ⟨b, o, none⟩ ∧ b < B ∧ ∀ j, j < bs.length → w.cell? ⟨b, o + j, none⟩ = some (.int .u8 ((bs[j]?.getD 0).toNat : Int)))
theorem Src.below {B : Nat} {w w' : World} {v : Value} {bs : List UInt8} (h : Src B w v bs) (hb : Below B w w') : Src B w' v bs := by
  obtain ⟨a, cap, hv, hc, h0 | ⟨b, o, ha, hB, hcell⟩⟩ := h
  · exact ⟨a, cap, hv, hc, .inl h0⟩
  · exact ⟨a, cap, hv, hc, .inr ⟨b, o, ha, hB, fun j hj => (hb.cell (p := ⟨b, o + j, none⟩) hB).trans (hcell j hj)⟩⟩

def FileAt (B : Nat) (w : World) (n : Nat) (ino links holds : Int) (bs : List UInt8) : Prop :=
  B ≤ n ∧ ∃ md tk a cap, NdAt w n ⟨ino, md, tk, false, .pointer none, .map none, .slice a bs.length cap, links, holds⟩ ∧ w.ownsRow B 5 1 (.slice a bs.length cap) bs.length (u8s bs)

theorem own_ge {w : World} {B e n : Nat} {v : Value} {xs : List Value} (h : w.ownsRow B e 1 v n xs) {g : Nat} (hg : v.ownBlock = some g) : B ≤ g := by
  rcases h.2 with ⟨rfl, _⟩ | ⟨g', cap, cur, rfl, hb, _⟩
  · simp [Value.ownBlock] at hg
  · obtain rfl : g' = g := by simpa [Value.ownBlock] using hg
    exact hb
theorem own_turn {w w' : World} {B e n : Nat} {v : Value} {xs : List Value} {S : List Nat} (h : w.ownsRow B e 1 v n xs) (hu : Turn S w w') (hs : ∀ g, v.ownBlock = some g → g ∉ S) : w'.ownsRow B e 1 v n xs := by
  refine ⟨h.1, ?_⟩
  rcases h.2 with hn | ⟨g, cap, cur, rfl, hb, hg, rest⟩
  · exact .inl hn
  · exact .inr ⟨g, cap, cur, rfl, hb, (hu.block g (Array.getElem?_eq_some_iff.1 hg).1 (hs g rfl)).trans hg, rest⟩
theorem FileAt.turn {B : Nat} {w w' : World} {n : Nat} {ino links holds : Int} {bs : List UInt8} {S : List Nat} (h : FileAt B w n ino links holds bs) (hu : Turn S w w') (hs : ∀ k, k ∈ S → k < B) : FileAt B w' n ino links holds bs := by
  obtain ⟨hB, md, tk, a, cap, hn, ho⟩ := h
  exact ⟨hB, md, tk, a, cap, hu.nd hn (fun e => by have := hs n e; omega), own_turn ho hu (fun g hg e => by have := hs g e; have := own_ge ho hg; omega)⟩

theorem write_file (t n fb N : Nat) (F : DataW Value) (ino now : Int) (links holds : Int) (B : Nat) (v : Value) (bs cs : List UInt8) (r nm la : Value) (w : World) (hBw : B ≤ w.heap.size)
    (hT : TrAt w t r (.map (some fb)) nm la) (hF : w.ownsMap Tryz.prog 3 R fb N F) (hi : (Lit.int .i64 ino).wf = true) (hlk : look F (ik ino) = ptr n) (hf : FileAt B w n ino links holds bs) (hv : Src B w v cs) (h1 : bs.length ≤ 16777216) (h2 : cs.length ≤ 16777216) :
    Calls Tryz.prog 141 #[.pointer (some ⟨t, 0, none⟩), .int .i64 ino, .int .i64 bs.length, v, .int .i64 now] w fun e w' => (∃ v, e = .returned v) ∧ FileAt B w' n ino links holds (bs ++ cs) ∧ Below B w w' := by
  obtain ⟨hBn, md, tk, a, cap, hn, ho⟩ := hf
  obtain ⟨a2, cap2, rfl, hc2, hsrc⟩ := hv
  by_cases hk : cs.length = 0
  · obtain rfl : cs = [] := List.eq_nil_of_length_eq_zero hk
    refine (write_none t n fb N F ino now bs.length cap2 a2 r nm la w hT hF hi hlk h1).mono ?_
    rintro e w' ⟨hv, rfl⟩
    exact ⟨hv, ⟨hBn, md, tk, a, cap, by simpa using hn, by simpa using ho⟩, Below.refl _ _⟩
  · rcases hsrc with h0 | ⟨b, o, rfl, hb, hcell⟩
    · exact absurd h0 hk
    · refine (write_end t n fb N F ino now _ a bs.length cap B b o cs.length cap2 (u8s bs) cs r nm la w hT hF hi hlk hn rfl ho hBw h1 (by omega) h2 rfl hc2 hcell (fun e => by have := own_ge ho e; omega) (by omega)).mono ?_
      rintro e w' ⟨hv, v', hn', ho', hU, hloc⟩
      obtain ⟨g, cap', cur, rfl, _⟩ := row_shape ho' (by omega)
      refine ⟨hv, ⟨hBn, md, now, some ⟨g, 0, none⟩, cap', by simpa using hn', by simpa [u8s] using ho'⟩, ⟨hU.os, hU.tape, hU.output, hU.size, fun k hk2 => hU.block k (by omega) ?_⟩⟩
      intro e
      rcases List.mem_cons.1 e with rfl | e
      · omega
      · have := own_ge ho (g := k) (by simpa using e)
        omega

theorem hold_file (t n fb N : Nat) (F : DataW Value) (ino : Int) (links holds : Int) (B : Nat) (bs : List UInt8) (r nm la : Value) (w : World) (hBw : B ≤ w.heap.size)
    (hT : TrAt w t r (.map (some fb)) nm la) (hF : w.ownsMap Tryz.prog 3 R fb N F) (hi : (Lit.int .i64 ino).wf = true) (hlk : look F (ik ino) = ptr n) (hf : FileAt B w n ino links holds bs) (h0 : 0 ≤ holds) (h1 : holds < 1000) :
    Calls Tryz.prog 108 #[.pointer (some ⟨t, 0, none⟩), .int .i64 ino] w fun e w' => (∃ v, e = .returned v) ∧ FileAt B w' n ino links (holds + 1) bs ∧ Below B w w' := by
  obtain ⟨hBn, md, tk, a, cap, hn, ho⟩ := hf
  refine (hold_c t n fb N F ino _ r nm la w hT hF hi hlk hn h0 (show holds < _ by omega)).mono ?_
  rintro e w' ⟨hv, hn', hU⟩
  exact ⟨hv, ⟨hBn, md, tk, a, cap, hn', own_turn ho hU (fun g hg e => by rw [List.mem_singleton] at e; exact row_ne ho hn (by decide) (e ▸ hg))⟩, ⟨hU.os, hU.tape, hU.output, hU.size, fun k hk => hU.block k (by omega) (by simp; omega)⟩⟩

theorem drop_file (t n fb N : Nat) (F : DataW Value) (ino : Int) (links holds : Int) (B : Nat) (bs : List UInt8) (r nm la : Value) (w : World) (hBw : B ≤ w.heap.size)
    (hT : TrAt w t r (.map (some fb)) nm la) (hF : w.ownsMap Tryz.prog 3 R fb N F) (hi : (Lit.int .i64 ino).wf = true) (hlk : look F (ik ino) = ptr n) (hf : FileAt B w n ino links holds bs) (h0 : 2 ≤ holds) (h1 : holds < 1000) :
    Calls Tryz.prog 139 #[.pointer (some ⟨t, 0, none⟩), .int .i64 ino] w fun e w' => (∃ v, e = .returned v) ∧ FileAt B w' n ino links (holds - 1) bs ∧ Below B w w' ∧ Turn [n] w w' := by
  obtain ⟨hBn, md, tk, a, cap, hn, ho⟩ := hf
  refine (drop_held t n fb N F ino _ r nm la w hT hF hi hlk hn rfl h0 (show holds < _ by omega)).mono ?_
  rintro e w' ⟨hv, hn', hU⟩
  exact ⟨hv, ⟨hBn, md, tk, a, cap, hn', own_turn ho hU (fun g hg e => by rw [List.mem_singleton] at e; exact row_ne ho hn (by decide) (e ▸ hg))⟩, ⟨hU.os, hU.tape, hU.output, hU.size, fun k hk => hU.block k (by omega) (by simp; omega)⟩, hU⟩

theorem gone_file (t n fb N : Nat) (F : DataW Value) (ino : Int) (B : Nat) (bs : List UInt8) (r nm la : Value) (w : World) (_hBw : B ≤ w.heap.size)
    (hT : TrAt w t r (.map (some fb)) nm la) (hF : w.ownsMap Tryz.prog 3 R fb N F) (hi : (Lit.int .i64 ino).wf = true) (hlk : look F (ik ino) = ptr n) (hf : FileAt B w n ino 0 1 bs) :
    Calls Tryz.prog 139 #[.pointer (some ⟨t, 0, none⟩), .int .i64 ino] w fun e w' => (∃ v, e = .returned v) ∧ w'.ownsMap Tryz.prog 3 R fb N (F.del (ik ino)) ∧ Turn [n, fb] w w' := by
  obtain ⟨hBn, md, tk, a, cap, hn, ho⟩ := hf
  refine (drop_gone t n fb N F _ r nm la w hT hF hi hlk hn rfl rfl rfl).mono ?_
  rintro e w' ⟨hv, hn', hF', hU⟩
  exact ⟨hv, hF', hU⟩

theorem size_file (t n fb N : Nat) (F : DataW Value) (ino : Int) (links holds : Int) (B : Nat) (bs : List UInt8) (r nm la : Value) (w : World)
    (hT : TrAt w t r (.map (some fb)) nm la) (hF : w.ownsMap Tryz.prog 3 R fb N F) (hi : (Lit.int .i64 ino).wf = true) (hlk : look F (ik ino) = ptr n) (hf : FileAt B w n ino links holds bs) :
    Calls Tryz.prog 169 #[.pointer (some ⟨t, 0, none⟩), .int .i64 ino] w fun e w' => e = .returned (.int .i64 bs.length) ∧ w' = w := by
  obtain ⟨hBn, md, tk, a, cap, hn, ho⟩ := hf
  exact size_c t n fb N F ino _ a bs.length cap r nm la w hT hF hi hlk hn rfl

theorem read_file (t n fb N : Nat) (F : DataW Value) (ino : Int) (links holds : Int) (B off most : Nat) (bs : List UInt8) (r nm la : Value) (w : World)
    (hT : TrAt w t r (.map (some fb)) nm la) (hF : w.ownsMap Tryz.prog 3 R fb N F) (hi : (Lit.int .i64 ino).wf = true) (hlk : look F (ik ino) = ptr n) (hf : FileAt B w n ino links holds bs) (hL : bs.length ≤ 33554432) (ho : off < bs.length ∨ off = 0) (hm : bs.length - off ≤ most) (hm0 : 0 < most) (hm2 : most ≤ 4611686018427387904) :
    Calls Tryz.prog 143 #[.pointer (some ⟨t, 0, none⟩), .int .i64 ino, .int .i64 off, .int .i64 most] w fun e w' => ∃ v', e = .returned v' ∧ w'.ownsRow w.heap.size 5 1 v' (bs.drop off).length (u8s (bs.drop off)) ∧ Below w.heap.size w w' := by
  obtain ⟨hBn, md, tk, a, cap, hn, hown⟩ := hf
  by_cases hlt : off < bs.length
  · refine (read_c t n fb N F ino _ a bs.length cap B off most (u8s bs) r nm la w hT hF hi hlk hn rfl hown (u8s_one bs) hL hlt hm hm2).mono ?_
    rintro e w' ⟨v', rfl, h1, h2⟩
    exact ⟨v', rfl, by rw [List.length_drop]; simpa [u8s] using h1, h2⟩
  · obtain rfl : off = 0 := by omega
    have hz : bs.length = 0 := by omega
    obtain rfl : bs = [] := List.eq_nil_of_length_eq_zero hz
    refine (read_none t n fb N F ino most _ a cap r nm la w hT hF hi hlk hn rfl (by omega)).mono ?_
    rintro e w' ⟨rfl, rfl⟩
    exact ⟨_, rfl, World.ownsRow_nil _ _ _ _, Below.refl _ _⟩
end Go.Proofs.YtblaikdpnngkhaaGreatDoor
