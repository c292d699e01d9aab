/- Transfers of the descriptors 0, 1 and 2. -/
import Derived.Test.YtfkoehfkiommpaaGreatDoorMNew
import Derived.RegionDies
namespace Go.Proofs.YtfkoehfkiommpaaGreatDoor
open Go.RowKit Go.Shelf Go.Maps

section
variable {G : Gh} {w : World} {k : KC} {rv v1 v2 : Value}
theorem KI.nes (h : KI G w k rv v1 v2) : G.kn ≠ G.so ∧ G.kn ≠ G.s1 ∧ G.kn ≠ G.s2 ∧ G.so ≠ G.s1 ∧ G.so ≠ G.s2 ∧ G.tb ≠ G.kn ∧ G.tb ≠ G.so ∧ G.tb ≠ G.s1 ∧ G.tb ≠ G.s2 :=
  ⟨h_ne h.kn h.so (by decide), h_ne h.kn h.k1 (by decide), h_ne h.kn h.k2 (by decide), h_ne h.so h.k1 (by decide), h_ne h.so h.k2 (by decide), h_ne h.tb h.kn (by decide), h_ne h.tb h.so (by decide), h_ne h.tb h.k1 (by decide), h_ne h.tb h.k2 (by decide)⟩
theorem KI.rows (h : KI G w k rv v1 v2) : (v1.ownBlock ≠ some G.kn ∧ v1.ownBlock ≠ some G.so ∧ v1.ownBlock ≠ some G.s1 ∧ v1.ownBlock ≠ some G.s2 ∧ v1.ownBlock ≠ some G.tb) ∧ (v2.ownBlock ≠ some G.kn ∧ v2.ownBlock ≠ some G.so ∧ v2.ownBlock ≠ some G.s1 ∧ v2.ownBlock ≠ some G.s2 ∧ v2.ownBlock ≠ some G.tb) :=
  ⟨⟨row_ne h.o1 h.kn (by decide), row_ne h.o1 h.so (by decide), row_ne h.o1 h.k1 (by decide), row_ne h.o1 h.k2 (by decide), row_ne h.o1 h.tb (by decide)⟩, ⟨row_ne h.o2 h.kn (by decide), row_ne h.o2 h.so (by decide), row_ne h.o2 h.k1 (by decide), row_ne h.o2 h.k2 (by decide), row_ne h.o2 h.tb (by decide)⟩⟩
/-- The kernel stands where nothing of it is turned. -/
theorem KI.keep (h : KI G w k rv v1 v2) {S : List Nat} {w' : World} (hT : Turn S w w') (hS : ∀ b ∈ S, b ≠ G.kn ∧ b ≠ G.so ∧ b ≠ G.s1 ∧ b ≠ G.s2 ∧ b ≠ G.tb ∧ b ≠ G.fb ∧ b ≠ G.rb ∧ v1.ownBlock ≠ some b ∧ v2.ownBlock ≠ some b) : KI G w' k rv v1 v2 where
  kn := hT.ob h.kn fun e => (hS _ e).1 rfl
  fl := h.fl.turn hT fun e => (hS _ e).2.2.2.2.2.1 rfl
  mild := h.mild
  fit := h.fit
  tb := hT.ob h.tb fun e => (hS _ e).2.2.2.2.1 rfl
  so := hT.ob h.so fun e => (hS _ e).2.1 rfl
  rest := h.rest.turn hT fun b off n c hb e => (hS _ e).2.2.2.2.2.2.1 (h.rblk b off n c hb)
  rblk := h.rblk
  k1 := hT.ob h.k1 fun e => (hS _ e).2.2.1 rfl
  o1 := own_turn h.o1 hT fun _ hg e => (hS _ e).2.2.2.2.2.2.2.1 hg
  k2 := hT.ob h.k2 fun e => (hS _ e).2.2.2.1 rfl
  o2 := own_turn h.o2 hT fun _ hg e => (hS _ e).2.2.2.2.2.2.2.2 hg
  s12 := h.s12
  lt := ⟨Nat.lt_of_lt_of_le h.lt.1 hT.size, Nat.lt_of_lt_of_le h.lt.2 hT.size⟩
  v12 := h.v12
  vr := h.vr
  vf := h.vf
  fb := h.fb
  rb := h.rb
theorem KI.al (h : KI G w k rv v1 v2) {w' : World} (hB : Below w.heap.size w w') : KI G w' k rv v1 v2 := h.keep (S := []) (Turn.below hB) (by simp)
/-- A fault is used up. -/
theorem KI.uses (h : KI G w k rv v1 v2) {w' : World} {u : Nat} (hT : Turn [G.kn] w w') (hK : KnAt w' G.kn G.tr G.fv u G.now G.th G.last) (hu : u ≤ G.faults.length) : KI G w' { k with used := u } rv v1 v2 := by
  have hn := h.nes
  have hr := h.rows
  have hf := h.fb
  have hb := h.rb
  exact { kn := hK, fl := h.fl.turn hT (by simpa using hf.1), mild := h.mild, fit := hu, tb := hT.ob h.tb (by simpa using hn.2.2.2.2.2.1), so := hT.ob h.so (by simpa using hn.1.symm), rest := h.rest.turn hT (fun b off n c e hm => hb.1 ((h.rblk b off n c e).symm.trans (by simpa using hm))), rblk := h.rblk, k1 := hT.ob h.k1 (by simpa using hn.2.1.symm), o1 := own_turn h.o1 hT (fun g hg e => hr.1.1 (by rw [hg]; simpa using e)), k2 := hT.ob h.k2 (by simpa using hn.2.2.1.symm), o2 := own_turn h.o2 hT (fun g hg e => hr.2.1 (by rw [hg]; simpa using e)), s12 := h.s12, lt := ⟨Nat.lt_of_lt_of_le h.lt.1 hT.size, Nat.lt_of_lt_of_le h.lt.2 hT.size⟩, v12 := h.v12, vr := h.vr, vf := h.vf, fb := h.fb, rb := h.rb }
end

theorem befS_used (l : List (Int × Int)) (u : Nat) (m : Int) (hu : u ≤ l.length) : (befS l u m).2.2 ≤ l.length := by
  unfold befS
  by_cases h : u < l.length
  · rw [if_pos h]; split
    · simp; omega
    · split <;> (simp; omega)
  · rw [if_neg h]; exact hu
theorem befS_ok (l : List (Int × Int)) (u : Nat) (m : Int) (hm : 1 ≤ m) (h0 : (befS l u m).2.1 = 0) : 1 ≤ (befS l u m).1 ∧ (befS l u m).1 ≤ m := by
  unfold befS at *
  by_cases h : u < l.length
  · rw [if_pos h] at h0 ⊢
    split at h0
    · rename_i h1; rw [if_pos h1]; simp; omega
    · rename_i h1; rw [if_neg h1]
      split at h0
      · simp at h0
      · rename_i h2; rw [if_neg h2]; simp; omega
  · rw [if_neg h]; simp; omega
theorem befS_err (l : List (Int × Int)) (u : Nat) (m : Int) : (befS l u m).2.1 = 0 ∨ (befS l u m).2.1 = 9 := by
  unfold befS
  split
  · split
    · exact .inl rfl
    · split
      · exact .inr rfl
      · exact .inl rfl
  · exact .inl rfl

theorem has0 (G : Gh) : (has3 G)[0]? = some (iSo G.so) := rfl
theorem has1 (G : Gh) : (has3 G)[1]? = some (iSk G.s1) := rfl
theorem has2 (G : Gh) : (has3 G)[2]? = some (iSk G.s2) := rfl

/-- A Read of the descriptor 0. -/
theorem tread_k {G : Gh} {w : World} {k : KC} {rv v1 v2 : Value} (h : KI G w k rv v1 v2) (most : Nat) (hm : 1 ≤ most) (hL : k.rest.length ≤ 1048576) :
    Calls Tryz.prog 286 #[ptr G.tb, .int .i64 0, .int .i64 most] w fun e w' => ∃ bv rv', e = .returned (.tuple #[bv, .int .i64 (readS G.faults k most).1.err]) ∧ w'.ownsRow w.heap.size 5 1 bv (readS G.faults k most).1.bytes.length (u8s (readS G.faults k most).1.bytes) ∧ KI G w' (readS G.faults k most).2 rv' v1 v2 ∧ Turn [G.kn, G.so] w w' := by
  have hbf := befall_c G.kn G.fb G.th k.used G.tr G.fv G.faults G.now G.last most false w h.kn h.fl h.fit h.mild
  have hmr := mayRead_so G.so most w (by omega)
  have hus := befS_used G.faults k.used most h.fit
  refine tread_c G.tb G.kn 0 (has3 G) 170 G.so most _ w h.tb (by decide) (has0 G) ?_
  rcases befS_err G.faults k.used most with he | he
  · have hok := befS_ok G.faults k.used most (by omega) he
    rw [he] at hbf
    obtain ⟨n, hn⟩ : ∃ n : Nat, (befS G.faults k.used most).1 = (n : Int) := ⟨(befS G.faults k.used most).1.toNat, by omega⟩
    have hrs : readS G.faults k most = (⟨0, k.rest.take n, 0⟩, { k with used := (befS G.faults k.used most).2.2, rest := k.rest.drop n }) := by
      unfold readS; rw [if_pos he, hn]; simp
    rw [hrs]
    refine (read_ok G.kn _ most n (fun w' => KI G w' { k with used := (befS G.faults k.used most).2.2 } rv v1 v2 ∧ Turn [G.kn] w w')
      (fun bv w' => ∃ rv', w'.ownsRow w.heap.size 5 1 bv (k.rest.take n).length (u8s (k.rest.take n)) ∧ KI G w' { k with used := (befS G.faults k.used most).2.2, rest := k.rest.drop n } rv' v1 v2 ∧ Turn [G.kn, G.so] w w') w hmr ?_ ?_).mono ?_
    · refine hbf.mono ?_
      rintro e w' ⟨rfl, hK, hT⟩
      exact ⟨by rw [hn], h.uses hT hK hus, hT⟩
    · rintro u ⟨hu, hTu⟩
      refine (take_by G.kn G.so n 1 rv k.rest u hu.so hu.rest hL).mono ?_
      rintro r w' ⟨bv, rv', rfl, ho, hS, hB, hsh, hT⟩
      have hn1 := hu.nes
      have hr1 := hu.rows
      have hf := hu.fb
      have hb := hu.rb
      have hsz := hTu.size
      refine ⟨bv, rfl, rv', own_less0 ho hsz, ?_, ((hTu.mono (by simp)).trans (hT.mono (by simp)))⟩
      exact { kn := hT.ob hu.kn (by simpa using hn1.1), fl := hu.fl.turn hT (by simpa using hf.2.1), mild := hu.mild, fit := hu.fit, tb := hT.ob hu.tb (by simpa using hn1.2.2.2.2.2.2.1), so := hS, rest := hB, rblk := fun b off n c e => (let ⟨o', n', c', e'⟩ := hsh b off n c e; hu.rblk b o' n' c' e'), k1 := hT.ob hu.k1 (by simpa using hn1.2.2.2.1.symm), o1 := own_turn hu.o1 hT (fun g hg e => hr1.1.2.1 (by rw [hg]; simpa using e)), k2 := hT.ob hu.k2 (by simpa using hn1.2.2.2.2.1.symm), o2 := own_turn hu.o2 hT (fun g hg e => hr1.2.2.1 (by rw [hg]; simpa using e)), s12 := hu.s12, lt := ⟨Nat.lt_of_lt_of_le hu.lt.1 hT.size, Nat.lt_of_lt_of_le hu.lt.2 hT.size⟩, v12 := hu.v12, vr := hu.vr, vf := hu.vf, fb := hu.fb, rb := hu.rb }
    · rintro r w' ⟨bv, rfl, rv', h1, h2, h3⟩
      exact ⟨bv, 0, rfl, bv, rv', rfl, h1, h2, h3⟩
  · have hrs : readS G.faults k most = (⟨0, [], 9⟩, { k with used := (befS G.faults k.used most).2.2 }) := by
      unfold readS; rw [if_neg (by rw [he]; decide), he]
    rw [hrs]
    refine (read_err G.kn _ most (befS G.faults k.used most).1 9 (fun w' => KI G w' { k with used := (befS G.faults k.used most).2.2 } rv v1 v2 ∧ Turn [G.kn, G.so] w w') w (by decide) hmr ?_).mono ?_
    · refine hbf.mono ?_
      rintro e w' ⟨rfl, hK, hT⟩
      exact ⟨by rw [he], h.uses hT hK hus, hT.mono (by simp)⟩
    · rintro r w' ⟨rfl, h1, h2⟩
      exact ⟨_, 9, rfl, _, rv, rfl, by simpa [u8s] using World.ownsRow_nil _ _ _ _, h1, h2⟩

/-- A Write of the descriptor 1. -/
theorem twrite_k1 {G : Gh} {w : World} {k : KC} {rv v1 v2 : Value} (h : KI G w k rv v1 v2) (bv : Value) (bs : List UInt8) (hb : ByAt w bv bs) (h0 : bs ≠ []) (hL : bs.length ≤ 1048576) (hO : k.out.length ≤ 549755813888) (hbk : ∀ b off n c, bv = .slice (some ⟨b, off, none⟩) n c → b ≠ G.kn) :
    Calls Tryz.prog 267 #[ptr G.tb, .int .i64 1, bv] w fun e w' => ∃ v1', e = .returned (.tuple #[.int .i64 (writeS G.faults k false bs).1.num, .int .i64 (writeS G.faults k false bs).1.err]) ∧ KI G w' (writeS G.faults k false bs).2 rv v1' v2 ∧ (v1'.ownBlock = v1.ownBlock ∨ ∃ g, v1'.ownBlock = some g ∧ w.heap.size ≤ g) ∧ Turn (G.kn :: G.s1 :: v1.ownBlock.toList) w w' := by
  have hlen : 0 < bs.length := List.length_pos_iff.2 h0
  rcases hb with ⟨_, rfl⟩ | ⟨b, off, cap, rfl, ⟨hc1, hc2⟩, hblt, hcell⟩
  · exact absurd rfl h0
  have hbn := hbk b off _ _ rfl
  have hbf := fun q => befall_c G.kn G.fb G.th k.used G.tr G.fv G.faults G.now G.last bs.length true (w.drewN q) (h.kn : KnAt (w.drewN q) _ _ _ _ _ _ _) (h.fl : Fl (w.drewN q) _ _ _) h.fit h.mild
  have hus := befS_used G.faults k.used bs.length h.fit
  have hmin : min bs.length 9223372036854775807 = bs.length := by omega
  have hroom : Calls Tryz.prog 301 #[ptr G.kn, iSk G.s1] w fun r w' => r = .returned (.tuple #[.int .i64 (9223372036854775807 : Nat), .int .i64 0]) ∧ ∃ q, w' = w.drewN q := by
    refine (room_sk G.kn G.s1 w).mono ?_
    rintro r w' ⟨rfl, rfl⟩
    exact ⟨by simp, 0, rfl⟩
  refine twrite_c G.tb G.kn 1 (has3 G) 176 G.s1 _ _ w h.tb (by decide) (has1 G) ?_
  rcases befS_err G.faults k.used bs.length with he | he
  · have hok := befS_ok G.faults k.used bs.length (by omega) he
    obtain ⟨n, hn⟩ : ∃ n : Nat, (befS G.faults k.used bs.length).1 = (n : Int) := ⟨(befS G.faults k.used bs.length).1.toNat, by omega⟩
    have hn1 : 1 ≤ n ∧ n ≤ bs.length := by omega
    have hrs : writeS G.faults k false bs = (⟨n, [], 0⟩, { k with used := (befS G.faults k.used bs.length).2.2, out := k.out ++ bs.take n }) := by
      unfold writeS; rw [if_pos he, hn]; simp
    rw [hrs]
    refine (write_ok G.kn _ ⟨b, off, none⟩ bs.length cap 9223372036854775807 n (fun w' => KI G w' { k with used := (befS G.faults k.used bs.length).2.2 } rv v1 v2 ∧ Turn [G.kn] w w')
      (fun w' => ∃ v1', KI G w' { k with used := (befS G.faults k.used bs.length).2.2, out := k.out ++ bs.take n } rv v1' v2 ∧ (v1'.ownBlock = v1.ownBlock ∨ ∃ g, v1'.ownBlock = some g ∧ w.heap.size ≤ g) ∧ Turn (G.kn :: G.s1 :: v1.ownBlock.toList) w w') w hlen hc1 hn1.2 (isW_sk G.s1 w) hroom ?_ ?_).mono ?_
    · intro q
      rw [hmin]
      refine (hbf q).mono ?_
      rintro e w' ⟨rfl, hK, hT⟩
      have hT' : Turn [G.kn] w w' := ⟨hT.os, hT.tape, hT.output, hT.size, hT.block⟩
      exact ⟨by rw [he, hn], h.uses hT' hK hus, hT'⟩
    · rintro u ⟨hu, hTu⟩
      have hcu : ∀ j, j < n → u.cell? ⟨b, off + j, none⟩ = some (.int .u8 (((bs.take n)[j]?.getD 0).toNat : Int)) := fun j hj => by
        rw [hTu.cell (hcell j (by omega)) (by simpa using hbn), List.getElem?_take, if_pos hj]
      refine (give_sk G.kn G.s1 0 b off n cap v1 1 k.out (bs.take n) u hu.k1 hu.o1 (Nat.zero_le _) (by omega) (by rw [List.length_take]; omega) (by omega) (by omega) hcu).mono ?_
      rintro r w' ⟨⟨r0, rfl⟩, v', hS, ho, hat, hT⟩
      have hne := hu.nes
      have hr := hu.rows
      have hf := hu.fb
      have hrb := hu.rb
      have hv := hu.v12
      have hvr := hu.vr
      have hvf := hu.vf
      have hsz := hTu.size
      have hlt1 := hu.lt
      have hmem : ∀ x, x ∈ G.s1 :: v1.ownBlock.toList → x = G.s1 ∨ v1.ownBlock = some x := fun x hx => by
        rcases List.mem_cons.1 hx with h1 | h1
        · exact .inl h1
        · exact .inr (by simpa using h1)
      have hnew : ∀ x, v'.ownBlock = some x → v1.ownBlock = some x ∨ x = u.heap.size := fun x hx => by
        rcases hat with h1 | h1
        · exact .inl (h1.symm.trans hx)
        · exact .inr (by rw [hx] at h1; exact Option.some.inj h1)
      refine ⟨⟨_, rfl⟩, v', ?_, ?_, (hTu.mono (by simp)).trans (hT.mono (fun x hx => by simp at hx ⊢; exact .inr hx))⟩
      · exact { kn := hT.ob hu.kn (fun e => (hmem _ e).elim (fun e => hne.2.1 e) (fun e => hr.1.1 e)), fl := hu.fl.turn hT (fun e => (hmem _ e).elim (fun e => hf.2.2.1 e) (fun e => hvf.1 e)), mild := hu.mild, fit := hu.fit, tb := hT.ob hu.tb (fun e => (hmem _ e).elim (fun e => hne.2.2.2.2.2.2.2.1 e) (fun e => hr.1.2.2.2.2 e)), so := hT.ob hu.so (fun e => (hmem _ e).elim (fun e => hne.2.2.2.1 e) (fun e => hr.1.2.1 e)), rest := hu.rest.turn hT (fun b off n c e hm => (hmem _ hm).elim (fun e2 => hrb.2.2.1 ((hu.rblk b off n c e).symm.trans e2)) (fun e2 => hvr.1 (by rw [← hu.rblk b off n c e]; exact e2))), rblk := hu.rblk, k1 := hS, o1 := ho, k2 := hT.ob hu.k2 (fun e => (hmem _ e).elim (fun e => hu.s12 e.symm) (fun e => hr.1.2.2.2.1 e)), o2 := own_turn hu.o2 hT (fun g hg e => (hmem _ e).elim (fun e2 => hr.2.2.2.1 (by rw [hg, e2])) (fun e2 => hv g e2 hg)), s12 := hu.s12, lt := ⟨Nat.lt_of_lt_of_le hlt1.1 hT.size, Nat.lt_of_lt_of_le hlt1.2 hT.size⟩, v12 := fun x hx hx2 => (hnew x hx).elim (fun e => hv x e hx2) (fun e => by have := own_lt hu.o2 hx2; omega), vr := ⟨fun e => (hnew _ e).elim hvr.1 (fun e => by omega), hvr.2⟩, vf := ⟨fun e => (hnew _ e).elim hvf.1 (fun e => by omega), hvf.2⟩, fb := hu.fb, rb := hu.rb }
      · rcases hat with h1 | h1
        · exact .inl h1
        · exact .inr ⟨_, h1, hsz⟩
    · rintro r w' ⟨rfl, v', h1, h2, h3⟩
      exact ⟨n, 0, rfl, v', rfl, h1, h2, h3⟩
  · have hrs : writeS G.faults k false bs = (⟨0, [], 9⟩, { k with used := (befS G.faults k.used bs.length).2.2 }) := by
      unfold writeS; rw [if_neg (by rw [he]; decide), he]
    rw [hrs]
    refine (write_err G.kn _ (some ⟨b, off, none⟩) bs.length cap 9223372036854775807 (befS G.faults k.used bs.length).1 9 (fun w' => KI G w' { k with used := (befS G.faults k.used bs.length).2.2 } rv v1 v2 ∧ Turn (G.kn :: G.s1 :: v1.ownBlock.toList) w w') w hlen (by decide) (isW_sk G.s1 w) hroom ?_).mono ?_
    · intro q
      rw [hmin]
      refine (hbf q).mono ?_
      rintro e w' ⟨rfl, hK, hT⟩
      have hT' : Turn [G.kn] w w' := ⟨hT.os, hT.tape, hT.output, hT.size, hT.block⟩
      exact ⟨by rw [he], h.uses hT' hK hus, hT'.mono (by simp)⟩
    · rintro r w' ⟨rfl, h1, h2⟩
      exact ⟨0, 9, rfl, v1, rfl, h1, .inl rfl, h2⟩

/-- A Write of the descriptor 2. -/
theorem twrite_k2 {G : Gh} {w : World} {k : KC} {rv v1 v2 : Value} (h : KI G w k rv v1 v2) (bv : Value) (bs : List UInt8) (hb : ByAt w bv bs) (h0 : bs ≠ []) (hL : bs.length ≤ 1048576) (hO : k.err.length ≤ 549755813888) (hbk : ∀ b off n c, bv = .slice (some ⟨b, off, none⟩) n c → b ≠ G.kn) :
    Calls Tryz.prog 267 #[ptr G.tb, .int .i64 2, bv] w fun e w' => ∃ v2', e = .returned (.tuple #[.int .i64 (writeS G.faults k true bs).1.num, .int .i64 (writeS G.faults k true bs).1.err]) ∧ KI G w' (writeS G.faults k true bs).2 rv v1 v2' ∧ (v2'.ownBlock = v2.ownBlock ∨ ∃ g, v2'.ownBlock = some g ∧ w.heap.size ≤ g) ∧ Turn (G.kn :: G.s2 :: v2.ownBlock.toList) w w' := by
  have hlen : 0 < bs.length := List.length_pos_iff.2 h0
  rcases hb with ⟨_, rfl⟩ | ⟨b, off, cap, rfl, ⟨hc1, hc2⟩, hblt, hcell⟩
  · exact absurd rfl h0
  have hbn := hbk b off _ _ rfl
  have hbf := fun q => befall_c G.kn G.fb G.th k.used G.tr G.fv G.faults G.now G.last bs.length true (w.drewN q) (h.kn : KnAt (w.drewN q) _ _ _ _ _ _ _) (h.fl : Fl (w.drewN q) _ _ _) h.fit h.mild
  have hus := befS_used G.faults k.used bs.length h.fit
  have hmin : min bs.length 9223372036854775807 = bs.length := by omega
  have hroom : Calls Tryz.prog 301 #[ptr G.kn, iSk G.s2] w fun r w' => r = .returned (.tuple #[.int .i64 (9223372036854775807 : Nat), .int .i64 0]) ∧ ∃ q, w' = w.drewN q := by
    refine (room_sk G.kn G.s2 w).mono ?_
    rintro r w' ⟨rfl, rfl⟩
    exact ⟨by simp, 0, rfl⟩
  refine twrite_c G.tb G.kn 2 (has3 G) 176 G.s2 _ _ w h.tb (by decide) (has2 G) ?_
  rcases befS_err G.faults k.used bs.length with he | he
  · have hok := befS_ok G.faults k.used bs.length (by omega) he
    obtain ⟨n, hn⟩ : ∃ n : Nat, (befS G.faults k.used bs.length).1 = (n : Int) := ⟨(befS G.faults k.used bs.length).1.toNat, by omega⟩
    have hn1 : 1 ≤ n ∧ n ≤ bs.length := by omega
    have hrs : writeS G.faults k true bs = (⟨n, [], 0⟩, { k with used := (befS G.faults k.used bs.length).2.2, err := k.err ++ bs.take n }) := by
      unfold writeS; rw [if_pos he, hn]; simp
    rw [hrs]
    refine (write_ok G.kn _ ⟨b, off, none⟩ bs.length cap 9223372036854775807 n (fun w' => KI G w' { k with used := (befS G.faults k.used bs.length).2.2 } rv v1 v2 ∧ Turn [G.kn] w w')
      (fun w' => ∃ v2', KI G w' { k with used := (befS G.faults k.used bs.length).2.2, err := k.err ++ bs.take n } rv v1 v2' ∧ (v2'.ownBlock = v2.ownBlock ∨ ∃ g, v2'.ownBlock = some g ∧ w.heap.size ≤ g) ∧ Turn (G.kn :: G.s2 :: v2.ownBlock.toList) w w') w hlen hc1 hn1.2 (isW_sk G.s2 w) hroom ?_ ?_).mono ?_
    · intro q
      rw [hmin]
      refine (hbf q).mono ?_
      rintro e w' ⟨rfl, hK, hT⟩
      have hT' : Turn [G.kn] w w' := ⟨hT.os, hT.tape, hT.output, hT.size, hT.block⟩
      exact ⟨by rw [he, hn], h.uses hT' hK hus, hT'⟩
    · rintro u ⟨hu, hTu⟩
      have hcu : ∀ j, j < n → u.cell? ⟨b, off + j, none⟩ = some (.int .u8 (((bs.take n)[j]?.getD 0).toNat : Int)) := fun j hj => by
        rw [hTu.cell (hcell j (by omega)) (by simpa using hbn), List.getElem?_take, if_pos hj]
      refine (give_sk G.kn G.s2 0 b off n cap v2 1 k.err (bs.take n) u hu.k2 hu.o2 (Nat.zero_le _) (by omega) (by rw [List.length_take]; omega) (by omega) (by omega) hcu).mono ?_
      rintro r w' ⟨⟨r0, rfl⟩, v', hS, ho, hat, hT⟩
      have hne := hu.nes
      have hr := hu.rows
      have hf := hu.fb
      have hrb := hu.rb
      have hv := hu.v12
      have hvr := hu.vr
      have hvf := hu.vf
      have hsz := hTu.size
      have hlt1 := hu.lt
      have hmem : ∀ x, x ∈ G.s2 :: v2.ownBlock.toList → x = G.s2 ∨ v2.ownBlock = some x := fun x hx => by
        rcases List.mem_cons.1 hx with h1 | h1
        · exact .inl h1
        · exact .inr (by simpa using h1)
      have hnew : ∀ x, v'.ownBlock = some x → v2.ownBlock = some x ∨ x = u.heap.size := fun x hx => by
        rcases hat with h1 | h1
        · exact .inl (h1.symm.trans hx)
        · exact .inr (by rw [hx] at h1; exact Option.some.inj h1)
      refine ⟨⟨_, rfl⟩, v', ?_, ?_, (hTu.mono (by simp)).trans (hT.mono (fun x hx => by simp at hx ⊢; exact .inr hx))⟩
      · exact { kn := hT.ob hu.kn (fun e => (hmem _ e).elim (fun e => hne.2.2.1 e) (fun e => hr.2.1 e)), fl := hu.fl.turn hT (fun e => (hmem _ e).elim (fun e => hf.2.2.2 e) (fun e => hvf.2 e)), mild := hu.mild, fit := hu.fit, tb := hT.ob hu.tb (fun e => (hmem _ e).elim (fun e => hne.2.2.2.2.2.2.2.2 e) (fun e => hr.2.2.2.2.2 e)), so := hT.ob hu.so (fun e => (hmem _ e).elim (fun e => hne.2.2.2.2.1 e) (fun e => hr.2.2.1 e)), rest := hu.rest.turn hT (fun b off n c e hm => (hmem _ hm).elim (fun e2 => hrb.2.2.2 ((hu.rblk b off n c e).symm.trans e2)) (fun e2 => hvr.2 (by rw [← hu.rblk b off n c e]; exact e2))), rblk := hu.rblk, k1 := hT.ob hu.k1 (fun e => (hmem _ e).elim (fun e => hu.s12 e) (fun e => hr.2.2.2.1 e)), o1 := own_turn hu.o1 hT (fun g hg e => (hmem _ e).elim (fun e2 => hr.1.2.2.2.1 (by rw [hg, e2])) (fun e2 => hv g hg e2)), k2 := hS, o2 := ho, s12 := hu.s12, lt := ⟨Nat.lt_of_lt_of_le hlt1.1 hT.size, Nat.lt_of_lt_of_le hlt1.2 hT.size⟩, v12 := fun x hx hx2 => (hnew x hx2).elim (fun e => hv x hx e) (fun e => by have := own_lt hu.o1 hx; omega), vr := ⟨hvr.1, fun e => (hnew _ e).elim hvr.2 (fun e => by omega)⟩, vf := ⟨hvf.1, fun e => (hnew _ e).elim hvf.2 (fun e => by omega)⟩, fb := hu.fb, rb := hu.rb }
      · rcases hat with h1 | h1
        · exact .inl h1
        · exact .inr ⟨_, h1, hsz⟩
    · rintro r w' ⟨rfl, v', h1, h2, h3⟩
      exact ⟨n, 0, rfl, v', rfl, h1, h2, h3⟩
  · have hrs : writeS G.faults k true bs = (⟨0, [], 9⟩, { k with used := (befS G.faults k.used bs.length).2.2 }) := by
      unfold writeS; rw [if_neg (by rw [he]; decide), he]
    rw [hrs]
    refine (write_err G.kn _ (some ⟨b, off, none⟩) bs.length cap 9223372036854775807 (befS G.faults k.used bs.length).1 9 (fun w' => KI G w' { k with used := (befS G.faults k.used bs.length).2.2 } rv v1 v2 ∧ Turn (G.kn :: G.s2 :: v2.ownBlock.toList) w w') w hlen (by decide) (isW_sk G.s2 w) hroom ?_).mono ?_
    · intro q
      rw [hmin]
      refine (hbf q).mono ?_
      rintro e w' ⟨rfl, hK, hT⟩
      have hT' : Turn [G.kn] w w' := ⟨hT.os, hT.tape, hT.output, hT.size, hT.block⟩
      exact ⟨by rw [he], h.uses hT' hK hus, hT'.mono (by simp)⟩
    · rintro r w' ⟨rfl, h1, h2⟩
      exact ⟨0, 9, rfl, v2, rfl, h1, .inl rfl, h2⟩
end Go.Proofs.YtfkoehfkiommpaaGreatDoor

namespace Go.Proofs.YtfkoehfkiommpaaGreatDoor
open Go.RowKit Go.Maps

/-- The world in which main is called. -/
abbrev GoW (w : World) (p m : Nat) (before : Value) : World := ((((w.setCell ⟨p, 13, none⟩ (ptr m)).setCell ⟨m, 3, none⟩ (.int .i64 0)).alloc (.cells #[ptr m] 125)).alloc (.cells #[before] 125)).drew
section
variable {w : World} {p kn tb kin : Nat} {args env box : Value} {cwd : ByteArray} {l1 l2 l3 held peak : Int} {isChild : Bool} {m : Nat} {main past next before : Value} {told steps status : Int} {once done : Bool}
theorem goW_turn : Turn [m, p] w (GoW w p m before) :=
  ((((Turn.set w p 13 _ (by simp)).trans (Turn.set _ m 3 _ (by simp))).trans (Turn.alloc _ _)).trans (Turn.alloc _ _)).drew
theorem goW_pr (hp : PrAt w p kn tb args env cwd l1 l2 l3 held peak box kin isChild before) (h : McAt w m p main past told next once steps done status) : PrAt (GoW w p m before) p kn tb args env cwd l1 l2 l3 held peak box kin isChild (ptr m) := by
  have hne : p ≠ m := h_ne hp h (by decide)
  have h1 : PrAt (w.setCell ⟨p, 13, none⟩ (ptr m)) p kn tb args env cwd l1 l2 l3 held peak box kin isChild (ptr m) := by have := h_set hp 13 (ptr m); simpa using this
  have h2 := s_other (i := 3) (v := .int .i64 0) h1 hne
  exact ((Turn.alloc (S := []) _ _).trans (Turn.alloc (S := []) _ _)).drew.ob h2 (by simp)
theorem goW_mc (hp : PrAt w p kn tb args env cwd l1 l2 l3 held peak box kin isChild before) (h : McAt w m p main past told next once steps done status) : McAt (GoW w p m before) m p main past 0 next once steps done status := by
  have hne : m ≠ p := h_ne h hp (by decide)
  have h1 : McAt (w.setCell ⟨p, 13, none⟩ (ptr m)) m p main past told next once steps done status := s_other h hne
  have h2 : McAt ((w.setCell ⟨p, 13, none⟩ (ptr m)).setCell ⟨m, 3, none⟩ (.int .i64 0)) m p main past 0 next once steps done status := by have := h_set h1 3 (.int .i64 0); simpa using this
  exact ((Turn.alloc (S := []) _ _).trans (Turn.alloc (S := []) _ _)).drew.ob h2 (by simp)
end

/-- Q, told of a panic by the frame's deferred calls alone: what a region that draws its order wants in a function that defers. -/
def AtPanic (D0 : List Deferred) (Q : Exit → Act → World → Prop) : Exit → Act → World → Prop
  | .panic c, a, w => a.defers = D0 ∧ ∀ a' : Act, a'.defers = D0 → Q (.panic c) a' w
  | e, a, w => Q e a w
theorem AtPanic.imp {D0 : List Deferred} {Q : Exit → Act → World → Prop} : ∀ (e : Exit) (a : Act) (w : World), AtPanic D0 Q e a w → Q e a w := fun e a w h => by
  cases e with
  | panic c => exact h.2 a h.1
  | _ => exact h

theorem goW_box (w : World) (p m : Nat) (b : Value) : (GoW w p m b).cell? ⟨w.heap.size + 1, 0, none⟩ = some b ∧ (GoW w p m b).cell? ⟨w.heap.size, 0, none⟩ = some (ptr m) := by
  have e1 : ((w.setCell ⟨p, 13, none⟩ (ptr m)).setCell ⟨m, 3, none⟩ (.int .i64 0)).heap.size = w.heap.size := by simp [World.setCell]
  unfold GoW
  generalize (w.setCell ⟨p, 13, none⟩ (ptr m)).setCell ⟨m, 3, none⟩ (.int .i64 0) = X at e1
  have a1 := World.cell?_alloc_new X #[ptr m] 125 0
  have a2 := World.cell?_alloc_new (X.alloc (.cells #[ptr m] 125)) #[b] 125 0
  have e2 : (X.alloc (.cells #[ptr m] 125)).heap.size = w.heap.size + 1 := by simp [e1]
  rw [e1] at a1
  rw [e2] at a2
  exact ⟨a2, al_cell _ a1⟩
/-- The calls that goOn defers. -/
abbrev goD (w : World) : List Deferred := [{ target := Target.fn (Fn.func 134) #[ptr (w.heap.size + 1), ptr w.heap.size], args := #[] }]
end Go.Proofs.YtfkoehfkiommpaaGreatDoor

namespace Go.Proofs.YtfkoehfkiommpaaGreatDoor
open Go.RowKit Go.Maps

set_option maxHeartbeats 2000000 in
set_option maxRecDepth 100000 in
/-- The next answer is told again. -/
theorem retold_some {w : World} {m pr g n c t an : Nat} {main next : Value} {steps status : Int} {once done : Bool} (h : McAt w m pr main (.slice (some ⟨g, 0, none⟩) n c) t next once steps done status) (ht : t < n) (hn : n ≤ 1048576) (hg : w.cell? ⟨g, t, none⟩ = some (ptr an)) (hne : g ≠ m) :
    Calls Tryz.prog 287 #[ptr m] w fun e w' => e = .returned (ptr an) ∧ McAt w' m pr main (.slice (some ⟨g, 0, none⟩) n c) (t + 1) next once steps done status ∧ Turn [m] w w' := by
  have c2 := h_cell h 2 rfl
  have c3 := h_cell h 3 rfl
  have z3 := h_fz h 3
  have hI : ¬ ((n : Int) ≤ (t : Int)) := by omega
  have HS := Lib.hid (fun k => show McAt ((w.drewN k).setCell ⟨m, 3, none⟩ (.int .i64 (t + 1))) m pr main (.slice (some ⟨g, 0, none⟩) n c) (t + 1) next once steps done status from by have := h_set (w := w.drewN k) h 3 (.int .i64 (t + 1)); simpa using this)
  clear h
  go_enter Tryz.func287, Tryz.ntmps287
  go_wp2
  go_quiet (fail)
  go_wp2
  have hV := HS.out nq
  have hTV : Turn [m] w ((w.drewN nq).setCell ⟨m, 3, none⟩ (.int .i64 (t + 1))) := ((Turn.refl [m] w).drewN nq).trans (Turn.set _ m 3 _ (by simp))
  have gV : ((w.drewN nq).setCell ⟨m, 3, none⟩ (.int .i64 (t + 1))).cell? ⟨g, t, none⟩ = some (ptr an) := hTV.cell hg (by simpa using hne)
  generalize (w.drewN nq).setCell ⟨m, 3, none⟩ (.int .i64 (t + 1)) = V at hV hTV gV ⊢
  have v2 := h_cell hV 2 rfl
  have v3 := h_cell hV 3 rfl
  have HV := Lib.hid hV
  have w1 : IntKind.i64.wrap ((t : Int) + 1 - 1) = (t : Int) := by rw [IntWalk.i64_in _ (by omega)]; omega
  have w2 : (t : Int) + 1 - 1 = (t : Int) := by omega
  have hI2 : (t : Int) < (n : Int) := by omega
  clear hV HS c2 c3 z3 hg hI
  go_quiet (fail)
  go_wp2
  go_ret
  exact ⟨rfl, HV.out, hTV.drewN _⟩
end Go.Proofs.YtfkoehfkiommpaaGreatDoor

namespace Go.Proofs.YtfkoehfkiommpaaGreatDoor
open Go.RowKit Go.Maps

theorem mc_eq (a : Addr) (w : World) : (binOp .eql 186 (.pointer (some a)) (.pointer none)).run Tryz.prog w = .ok (.bool false) w := by kernel_rfl
theorem an_nil (w : World) : (binOp .eql 186 (.pointer none) (.pointer none)).run Tryz.prog w = .ok (.bool true) w := by kernel_rfl

section
variable {w : World} {p kn tb kin : Nat} {args env box : Value} {cwd : ByteArray} {l1 l2 l3 held peak : Int} {isChild : Bool}
set_option maxHeartbeats 1000000 in
theorem pretold_some {m pr g n c t an : Nat} {main next : Value} {steps status : Int} {once done : Bool} (hp : PrAt w p kn tb args env cwd l1 l2 l3 held peak box kin isChild (ptr m)) (h : McAt w m pr main (.slice (some ⟨g, 0, none⟩) n c) t next once steps done status) (ht : t < n) (hn : n ≤ 1048576) (hg : w.cell? ⟨g, t, none⟩ = some (ptr an)) (hne : g ≠ m) :
    Calls Tryz.prog 264 #[ptr p] w fun e w' => e = .returned (ptr an) ∧ McAt w' m pr main (.slice (some ⟨g, 0, none⟩) n c) (t + 1) next once steps done status ∧ Turn [m] w w' := by
  have hr := retold_some h ht hn hg hne
  have c13 := h_cell hp 13 rfl
  have q1 := mc_neq
  clear h hp hg
  go_enter Tryz.func264, Tryz.ntmps264
  go_wp2_with (go_at_call 287; refine hr.mono ?_; rintro e w' ⟨rfl, hm2, hT2⟩)
  go_ret
  exact ⟨rfl, hm2, hT2⟩
set_option maxHeartbeats 2000000 in
set_option maxRecDepth 100000 in
theorem pwrite_told {m pr g n c t an : Nat} {main next b : Value} {steps status fd num err : Int} {once done : Bool} (hp : PrAt w p kn tb args env cwd l1 l2 l3 held peak box kin isChild (ptr m)) (h : McAt w m pr main (.slice (some ⟨g, 0, none⟩) n c) t next once steps done status) (ht : t < n) (hn : n ≤ 1048576) (hg : w.cell? ⟨g, t, none⟩ = some (ptr an)) (hne : g ≠ m) (ha : an ≠ m)
    (h0 : w.cell? ⟨an, 0, none⟩ = some (.int .i64 num)) (h9 : w.cell? ⟨an, 10, none⟩ = some (.int .i64 err)) :
    Calls Tryz.prog 243 #[ptr p, .int .i64 fd, b] w fun e w' => e = .returned (.tuple #[.int .i64 num, .int .i64 err]) ∧ McAt w' m pr main (.slice (some ⟨g, 0, none⟩) n c) (t + 1) next once steps done status ∧ Turn [m] w w' := by
  have hT0 : Turn [] w ((w.alloc (.cells #[ptr p] 115)).alloc (.cells #[.int .i64 fd] 3)) := (Turn.alloc w _).trans (Turn.alloc _ _)
  have hr := pretold_some (hT0.ob hp (by simp)) (hT0.ob h (by simp)) ht hn (hT0.cell hg (by simp)) hne
  have a0 := hT0.cell h0 (by simp)
  have a9 := hT0.cell h9 (by simp)
  have q1 := mc_eq
  clear h hp hg h0 h9
  go_enter Tryz.func243, Tryz.ntmps243
  go_wp2_with (go_at_call 264; refine hr.mono ?_; rintro e w' ⟨rfl, hm2, hT2⟩; have d0 := hT2.cell a0 (by simpa using ha); have d9 := hT2.cell a9 (by simpa using ha))
  go_quiet (fail)
  go_wp2
  go_ret2
  exact ⟨rfl, hm2, ((hT0.mono (by simp)).trans hT2).drewN _⟩

set_option maxHeartbeats 1000000 in
theorem pretold_none {m pr n c : Nat} {x : Option Addr} {main next : Value} {told steps status : Int} {once done : Bool} (hp : PrAt w p kn tb args env cwd l1 l2 l3 held peak box kin isChild (ptr m)) (h : McAt w m pr main (.slice x n c) told next once steps done status) (hn : (n : Int) ≤ told) :
    Calls Tryz.prog 264 #[ptr p] w fun e w' => e = .returned (.pointer none) ∧ ∃ k, w' = w.drewN k := by
  have hr := retold_none h hn
  have c13 := h_cell hp 13 rfl
  have q1 := mc_neq
  clear h hp
  go_enter Tryz.func264, Tryz.ntmps264
  go_wp2_with (go_at_call 287; refine hr.mono ?_; rintro e w' ⟨rfl, k, hw'⟩; rw [hw']; clear hw')
  go_ret
  exact ⟨rfl, k, rfl⟩
end
end Go.Proofs.YtfkoehfkiommpaaGreatDoor
