/- A map whose keys are strings, whatever its elements are. -/
import Derived.Maps.OwnSet
import Derived.Test.YteimilnecahifaaGreatDoorKBefall
import Derived.Test.YteimilnecahifaaGreatDoorYMap
namespace Go.Proofs.YteimilnecahifaaGreatDoor
open Go.RowKit Go.Maps

/-- A map of at most n entries, that holds for a string what f tells. -/
def MapS (w : World) (b n : Nat) (f : ByteArray → Option Value) : Prop :=
  ∃ D : DataW Value, w.ownsMap Tryz.prog 9 R b n D ∧ IsMap D ∧ ∀ s, Maps.has D (sk s) = (f s).isSome ∧ ∀ z, D.atKey (sk s) (.held z) = .held ((f s).getD z)
theorem skS_inj {a b : ByteArray} (h : sk a = sk b) : a = b := by
  have h1 : a.data.toList = b.data.toList := by simpa [sk] using h
  cases a; cases b
  congr
  exact Array.toList_inj.1 h1
theorem MapS.made (w : World) : MapS (w.alloc (.map #[] 0)) w.heap.size 0 (fun _ => none) :=
  ⟨_, World.ownsMap_made w Tryz.prog 9 R, isMap_empty, fun c => ⟨rfl, fun z => by simp [DataW.atKey]⟩⟩
theorem MapS.kept {w w' : World} {b n : Nat} {f : ByteArray → Option Value} {row : Option Nat} (h : MapS w b n f) (hg : w.grownBy w' row) (hne : some b ≠ row) : MapS w' b n f :=
  let ⟨D, h1, h2⟩ := h; ⟨D, h1.kept hg hne, h2⟩
theorem MapS.lt {w : World} {b n : Nat} {f : ByteArray → Option Value} (h : MapS w b n f) : b < w.heap.size := let ⟨_, h1, _⟩ := h; h1.lt
theorem MapS.below {w w' : World} {b n : Nat} {f : ByteArray → Option Value} (h : MapS w b n f) (hb : Below w.heap.size w w') : MapS w' b n f :=
  h.kept (row := none) ⟨hb.os, hb.tape, hb.output, hb.size, fun k hk _ => hb.block k hk⟩ (by simp)
theorem MapS.less {w : World} {b n n' : Nat} {f : ByteArray → Option Value} (h : MapS w b n f) (e : n = n') : MapS w b n' f := e ▸ h
/-- 'v, ok := m[s]'. -/
theorem MapS.look {w : World} {b n : Nat} {f : ByteArray → Option Value} (h : MapS w b n f) {t e : TypeId} (ht : Tryz.prog.underlying t = some (.map 9 e)) {z : Value} (hz : (zeroValue e).run Tryz.prog w = .ok z w) (s : ByteArray) (hs : s.size ≤ maxLen) :
    (Instr.lookup t (.map (some b)) (.string s) true).run Tryz.prog w = .ok (.tuple #[(f s).getD z, .bool (f s).isSome]) w := by
  obtain ⟨D, h1, _, h3⟩ := h
  obtain ⟨v, ps, hr, hv⟩ := h1.look_ok keyed9 ht hz (zd := .held z) (zp := []) rfl (WideMaps.keyOf_string_mk Tryz.underlying9 hs)
  rw [show (Lit.string s.data.toList) = sk s from rfl, (h3 s).2 z] at hv
  have e1 : v = (f s).getD z := by
    simp only [R, Option.some.injEq, Prod.mk.injEq, DataW.held.injEq] at hv; exact hv.1
  rw [hr, e1, show (Lit.string s.data.toList) = sk s from rfl, (h3 s).1]
/-- 'm[s] = v'. -/
theorem MapS.put {w : World} {b n : Nat} {f : ByteArray → Option Value} (h : MapS w b n f) {t e : TypeId} (ht : Tryz.prog.underlying t = some (.map 9 e)) (hn : n < maxLen) (s : ByteArray) (hs : s.size ≤ maxLen) (v : Value) :
    ∃ w', (Instr.mapUpdate t (.map (some b)) (.string s) v).run Tryz.prog w = .ok () w' ∧ MapS w' b (n + 1) (fun d => if d = s then some v else f d) ∧ w.grownBy w' (some b) := by
  obtain ⟨D, h1, h2, h3⟩ := h
  obtain ⟨w', hr, ho, hg⟩ := h1.update keyed9 ht hn (key := .string s) (val := v) (d := .held v) (ps := []) (WideMaps.keyOf_string_mk Tryz.underlying9 hs) rfl
  refine ⟨w', hr, ⟨_, ho, ho.isMap, fun d => ?_⟩, hg⟩
  have hk : ∀ d, WideAt.IsKeyLit (sk d) := fun d => by simp [WideAt.IsKeyLit]
  rw [show (Lit.string s.data.toList) = sk s from rfl]
  by_cases hd : d = s
  · subst hd
    rw [has_put_same h2 (hk d)]
    refine ⟨by simp, fun z => ?_⟩
    rw [atKey_put_same h2 (hk d)]; simp
  · have hne : sk d ≠ sk s := fun e => hd (skS_inj e)
    simp only [has_put_other hne, if_neg hd]
    exact ⟨(h3 d).1, fun z => by rw [atKey_put_other hne]; exact (h3 d).2 z⟩
end Go.Proofs.YteimilnecahifaaGreatDoor

namespace Go.Proofs.YteimilnecahifaaGreatDoor
open Go.RowKit Go.Shelf Go.Maps

section
variable {G : Gh} {w : World} {k : KC} {rv v1 v2 : Value}
theorem KI.nes (h : KI G w k rv v1 v2) : G.kn ≠ G.so ∧ G.kn ≠ G.s1 ∧ G.kn ≠ G.s2 ∧ G.so ≠ G.s1 ∧ G.so ≠ G.s2 ∧ G.tb ≠ G.kn ∧ G.tb ≠ G.so ∧ G.tb ≠ G.s1 ∧ G.tb ≠ G.s2 :=
  ⟨h_ne h.kn h.so (by decide), h_ne h.kn h.k1 (by decide), h_ne h.kn h.k2 (by decide), h_ne h.so h.k1 (by decide), h_ne h.so h.k2 (by decide), h_ne h.tb h.kn (by decide), h_ne h.tb h.so (by decide), h_ne h.tb h.k1 (by decide), h_ne h.tb h.k2 (by decide)⟩
theorem KI.rows (h : KI G w k rv v1 v2) : (v1.ownBlock ≠ some G.kn ∧ v1.ownBlock ≠ some G.so ∧ v1.ownBlock ≠ some G.s1 ∧ v1.ownBlock ≠ some G.s2 ∧ v1.ownBlock ≠ some G.tb) ∧ (v2.ownBlock ≠ some G.kn ∧ v2.ownBlock ≠ some G.so ∧ v2.ownBlock ≠ some G.s1 ∧ v2.ownBlock ≠ some G.s2 ∧ v2.ownBlock ≠ some G.tb) :=
  ⟨⟨row_ne h.o1 h.kn (by decide), row_ne h.o1 h.so (by decide), row_ne h.o1 h.k1 (by decide), row_ne h.o1 h.k2 (by decide), row_ne h.o1 h.tb (by decide)⟩, ⟨row_ne h.o2 h.kn (by decide), row_ne h.o2 h.so (by decide), row_ne h.o2 h.k1 (by decide), row_ne h.o2 h.k2 (by decide), row_ne h.o2 h.tb (by decide)⟩⟩
/-- The kernel stands where nothing of it is turned. -/
theorem KI.keep (h : KI G w k rv v1 v2) {S : List Nat} {w' : World} (hT : Turn S w w') (hS : ∀ b ∈ S, b ≠ G.kn ∧ b ≠ G.so ∧ b ≠ G.s1 ∧ b ≠ G.s2 ∧ b ≠ G.tb ∧ b ≠ G.fb ∧ b ≠ G.rb ∧ v1.ownBlock ≠ some b ∧ v2.ownBlock ≠ some b) : KI G w' k rv v1 v2 where
  kn := hT.ob h.kn fun e => (hS _ e).1 rfl
  fl := h.fl.turn hT fun e => (hS _ e).2.2.2.2.2.1 rfl
  mild := h.mild
  fit := h.fit
  tb := hT.ob h.tb fun e => (hS _ e).2.2.2.2.1 rfl
  so := hT.ob h.so fun e => (hS _ e).2.1 rfl
  rest := h.rest.turn hT fun b off n c hb e => (hS _ e).2.2.2.2.2.2.1 (h.rblk b off n c hb)
  rblk := h.rblk
  k1 := hT.ob h.k1 fun e => (hS _ e).2.2.1 rfl
  o1 := own_turn h.o1 hT fun _ hg e => (hS _ e).2.2.2.2.2.2.2.1 hg
  k2 := hT.ob h.k2 fun e => (hS _ e).2.2.2.1 rfl
  o2 := own_turn h.o2 hT fun _ hg e => (hS _ e).2.2.2.2.2.2.2.2 hg
  s12 := h.s12
  lt := ⟨Nat.lt_of_lt_of_le h.lt.1 hT.size, Nat.lt_of_lt_of_le h.lt.2 hT.size⟩
  v12 := h.v12
  vr := h.vr
  vf := h.vf
  fb := h.fb
  rb := h.rb
/-- A fault is used up. -/
theorem KI.uses (h : KI G w k rv v1 v2) {w' : World} {u : Nat} (hT : Turn [G.kn] w w') (hK : KnAt w' G.kn G.tr G.fv u G.now G.th G.last) (hu : u ≤ G.faults.length) : KI G w' { k with used := u } rv v1 v2 := by
  have hn := h.nes
  have hr := h.rows
  have hf := h.fb
  have hb := h.rb
  exact { kn := hK, fl := h.fl.turn hT (by simpa using hf.1), mild := h.mild, fit := hu, tb := hT.ob h.tb (by simpa using hn.2.2.2.2.2.1), so := hT.ob h.so (by simpa using hn.1.symm), rest := h.rest.turn hT (fun b off n c e hm => hb.1 ((h.rblk b off n c e).symm.trans (by simpa using hm))), rblk := h.rblk, k1 := hT.ob h.k1 (by simpa using hn.2.1.symm), o1 := own_turn h.o1 hT (fun g hg e => hr.1.1 (by rw [hg]; simpa using e)), k2 := hT.ob h.k2 (by simpa using hn.2.2.1.symm), o2 := own_turn h.o2 hT (fun g hg e => hr.2.1 (by rw [hg]; simpa using e)), s12 := h.s12, lt := ⟨Nat.lt_of_lt_of_le h.lt.1 hT.size, Nat.lt_of_lt_of_le h.lt.2 hT.size⟩, v12 := h.v12, vr := h.vr, vf := h.vf, fb := h.fb, rb := h.rb }
end

theorem befS_used (l : List (Int × Int)) (u : Nat) (m : Int) (hu : u ≤ l.length) : (befS l u m).2.2 ≤ l.length := by
  unfold befS
  by_cases h : u < l.length
  · rw [if_pos h]; split
    · simp; omega
    · split <;> (simp; omega)
  · rw [if_neg h]; exact hu
theorem befS_ok (l : List (Int × Int)) (u : Nat) (m : Int) (hm : 1 ≤ m) (h0 : (befS l u m).2.1 = 0) : 1 ≤ (befS l u m).1 ∧ (befS l u m).1 ≤ m := by
  unfold befS at *
  by_cases h : u < l.length
  · rw [if_pos h] at h0 ⊢
    split at h0
    · rename_i h1; rw [if_pos h1]; simp; omega
    · rename_i h1; rw [if_neg h1]
      split at h0
      · simp at h0
      · rename_i h2; rw [if_neg h2]; simp; omega
  · rw [if_neg h]; simp; omega
theorem befS_err (l : List (Int × Int)) (u : Nat) (m : Int) : (befS l u m).2.1 = 0 ∨ (befS l u m).2.1 = 9 := by
  unfold befS
  split
  · split
    · exact .inl rfl
    · split
      · exact .inr rfl
      · exact .inl rfl
  · exact .inl rfl

theorem has1 (G : Gh) : (has3 G)[1]? = some (iSk G.s1) := rfl
theorem has2 (G : Gh) : (has3 G)[2]? = some (iSk G.s2) := rfl

/-- A Write of the descriptor 1. -/
theorem twrite_k1 {G : Gh} {w : World} {k : KC} {rv v1 v2 : Value} (h : KI G w k rv v1 v2) (bv : Value) (bs : List UInt8) (hb : ByAt w bv bs) (h0 : bs ≠ []) (hL : bs.length ≤ 1073741824) (hO : k.out.length ≤ 549755813888) (hbk : ∀ b off n c, bv = .slice (some ⟨b, off, none⟩) n c → b ≠ G.kn) :
    Calls Tryz.prog 240 #[ptr G.tb, .int .i64 1, bv] w fun e w' => ∃ v1', e = .returned (.tuple #[.int .i64 (writeS G.faults k false bs).1.num, .int .i64 (writeS G.faults k false bs).1.err]) ∧ KI G w' (writeS G.faults k false bs).2 rv v1' v2 ∧ (v1'.ownBlock = v1.ownBlock ∨ ∃ g, v1'.ownBlock = some g ∧ w.heap.size ≤ g) ∧ Turn (G.kn :: G.s1 :: v1.ownBlock.toList) w w' := by
  have hlen : 0 < bs.length := List.length_pos_iff.2 h0
  rcases hb with ⟨_, rfl⟩ | ⟨b, off, cap, rfl, ⟨hc1, hc2⟩, hblt, hcell⟩
  · exact absurd rfl h0
  have hbn := hbk b off _ _ rfl
  have hbf := fun q => befall_c G.kn G.fb G.th k.used G.tr G.fv G.faults G.now G.last bs.length true (w.drewN q) (h.kn : KnAt (w.drewN q) _ _ _ _ _ _ _) (h.fl : Fl (w.drewN q) _ _ _) h.fit h.mild
  have hus := befS_used G.faults k.used bs.length h.fit
  have hmin : min bs.length 9223372036854775807 = bs.length := by omega
  have hroom : Calls Tryz.prog 270 #[ptr G.kn, iSk G.s1] w fun r w' => r = .returned (.tuple #[.int .i64 (9223372036854775807 : Nat), .int .i64 0]) ∧ ∃ q, w' = w.drewN q := by
    refine (room_sk G.kn G.s1 w).mono ?_
    rintro r w' ⟨rfl, rfl⟩
    exact ⟨by simp, 0, rfl⟩
  refine twrite_c G.tb G.kn 1 (has3 G) 139 G.s1 _ _ w h.tb (by decide) (has1 G) ?_
  rcases befS_err G.faults k.used bs.length with he | he
  · have hok := befS_ok G.faults k.used bs.length (by omega) he
    obtain ⟨n, hn⟩ : ∃ n : Nat, (befS G.faults k.used bs.length).1 = (n : Int) := ⟨(befS G.faults k.used bs.length).1.toNat, by omega⟩
    have hn1 : 1 ≤ n ∧ n ≤ bs.length := by omega
    have hrs : writeS G.faults k false bs = (⟨n, [], 0⟩, { k with used := (befS G.faults k.used bs.length).2.2, out := k.out ++ bs.take n }) := by
      unfold writeS; rw [if_pos he, hn]; simp
    rw [hrs]
    refine (write_ok G.kn _ ⟨b, off, none⟩ bs.length cap 9223372036854775807 n (fun w' => KI G w' { k with used := (befS G.faults k.used bs.length).2.2 } rv v1 v2 ∧ Turn [G.kn] w w')
      (fun w' => ∃ v1', KI G w' { k with used := (befS G.faults k.used bs.length).2.2, out := k.out ++ bs.take n } rv v1' v2 ∧ (v1'.ownBlock = v1.ownBlock ∨ ∃ g, v1'.ownBlock = some g ∧ w.heap.size ≤ g) ∧ Turn (G.kn :: G.s1 :: v1.ownBlock.toList) w w') w hlen hc1 hn1.2 (isW_sk G.s1 w) hroom ?_ ?_).mono ?_
    · intro q
      rw [hmin]
      refine (hbf q).mono ?_
      rintro e w' ⟨rfl, hK, hT⟩
      have hT' : Turn [G.kn] w w' := ⟨hT.os, hT.tape, hT.output, hT.size, hT.block⟩
      exact ⟨by rw [he, hn], h.uses hT' hK hus, hT'⟩
    · rintro u ⟨hu, hTu⟩
      have hcu : ∀ j, j < n → u.cell? ⟨b, off + j, none⟩ = some (.int .u8 (((bs.take n)[j]?.getD 0).toNat : Int)) := fun j hj => by
        rw [hTu.cell (hcell j (by omega)) (by simpa using hbn), List.getElem?_take, if_pos hj]
      refine (give_sk G.kn G.s1 0 b off n cap v1 1 k.out (bs.take n) u hu.k1 hu.o1 (Nat.zero_le _) (by omega) (by rw [List.length_take]; omega) (by omega) (by omega) hcu).mono ?_
      rintro r w' ⟨⟨r0, rfl⟩, v', hS, ho, hat, hT⟩
      have hne := hu.nes
      have hr := hu.rows
      have hf := hu.fb
      have hrb := hu.rb
      have hv := hu.v12
      have hvr := hu.vr
      have hvf := hu.vf
      have hsz := hTu.size
      have hlt1 := hu.lt
      have hmem : ∀ x, x ∈ G.s1 :: v1.ownBlock.toList → x = G.s1 ∨ v1.ownBlock = some x := fun x hx => by
        rcases List.mem_cons.1 hx with h1 | h1
        · exact .inl h1
        · exact .inr (by simpa using h1)
      have hnew : ∀ x, v'.ownBlock = some x → v1.ownBlock = some x ∨ x = u.heap.size := fun x hx => by
        rcases hat with h1 | h1
        · exact .inl (h1.symm.trans hx)
        · exact .inr (by rw [hx] at h1; exact Option.some.inj h1)
      refine ⟨⟨_, rfl⟩, v', ?_, ?_, (hTu.mono (by simp)).trans (hT.mono (fun x hx => by simp at hx ⊢; exact .inr hx))⟩
      · exact { kn := hT.ob hu.kn (fun e => (hmem _ e).elim (fun e => hne.2.1 e) (fun e => hr.1.1 e)), fl := hu.fl.turn hT (fun e => (hmem _ e).elim (fun e => hf.2.2.1 e) (fun e => hvf.1 e)), mild := hu.mild, fit := hu.fit, tb := hT.ob hu.tb (fun e => (hmem _ e).elim (fun e => hne.2.2.2.2.2.2.2.1 e) (fun e => hr.1.2.2.2.2 e)), so := hT.ob hu.so (fun e => (hmem _ e).elim (fun e => hne.2.2.2.1 e) (fun e => hr.1.2.1 e)), rest := hu.rest.turn hT (fun b off n c e hm => (hmem _ hm).elim (fun e2 => hrb.2.2.1 ((hu.rblk b off n c e).symm.trans e2)) (fun e2 => hvr.1 (by rw [← hu.rblk b off n c e]; exact e2))), rblk := hu.rblk, k1 := hS, o1 := ho, k2 := hT.ob hu.k2 (fun e => (hmem _ e).elim (fun e => hu.s12 e.symm) (fun e => hr.1.2.2.2.1 e)), o2 := own_turn hu.o2 hT (fun g hg e => (hmem _ e).elim (fun e2 => hr.2.2.2.1 (by rw [hg, e2])) (fun e2 => hv g e2 hg)), s12 := hu.s12, lt := ⟨Nat.lt_of_lt_of_le hlt1.1 hT.size, Nat.lt_of_lt_of_le hlt1.2 hT.size⟩, v12 := fun x hx hx2 => (hnew x hx).elim (fun e => hv x e hx2) (fun e => by have := own_lt hu.o2 hx2; omega), vr := ⟨fun e => (hnew _ e).elim hvr.1 (fun e => by omega), hvr.2⟩, vf := ⟨fun e => (hnew _ e).elim hvf.1 (fun e => by omega), hvf.2⟩, fb := hu.fb, rb := hu.rb }
      · rcases hat with h1 | h1
        · exact .inl h1
        · exact .inr ⟨_, h1, hsz⟩
    · rintro r w' ⟨rfl, v', h1, h2, h3⟩
      exact ⟨n, 0, rfl, v', rfl, h1, h2, h3⟩
  · have hrs : writeS G.faults k false bs = (⟨0, [], 9⟩, { k with used := (befS G.faults k.used bs.length).2.2 }) := by
      unfold writeS; rw [if_neg (by rw [he]; decide), he]
    rw [hrs]
    refine (write_err G.kn _ (some ⟨b, off, none⟩) bs.length cap 9223372036854775807 (befS G.faults k.used bs.length).1 9 (fun w' => KI G w' { k with used := (befS G.faults k.used bs.length).2.2 } rv v1 v2 ∧ Turn (G.kn :: G.s1 :: v1.ownBlock.toList) w w') w hlen (by decide) (isW_sk G.s1 w) hroom ?_).mono ?_
    · intro q
      rw [hmin]
      refine (hbf q).mono ?_
      rintro e w' ⟨rfl, hK, hT⟩
      have hT' : Turn [G.kn] w w' := ⟨hT.os, hT.tape, hT.output, hT.size, hT.block⟩
      exact ⟨by rw [he], h.uses hT' hK hus, hT'.mono (by simp)⟩
    · rintro r w' ⟨rfl, h1, h2⟩
      exact ⟨0, 9, rfl, v1, rfl, h1, .inl rfl, h2⟩

/-- A Write of the descriptor 2. -/
theorem twrite_k2 {G : Gh} {w : World} {k : KC} {rv v1 v2 : Value} (h : KI G w k rv v1 v2) (bv : Value) (bs : List UInt8) (hb : ByAt w bv bs) (h0 : bs ≠ []) (hL : bs.length ≤ 1073741824) (hO : k.err.length ≤ 549755813888) (hbk : ∀ b off n c, bv = .slice (some ⟨b, off, none⟩) n c → b ≠ G.kn) :
    Calls Tryz.prog 240 #[ptr G.tb, .int .i64 2, bv] w fun e w' => ∃ v2', e = .returned (.tuple #[.int .i64 (writeS G.faults k true bs).1.num, .int .i64 (writeS G.faults k true bs).1.err]) ∧ KI G w' (writeS G.faults k true bs).2 rv v1 v2' ∧ (v2'.ownBlock = v2.ownBlock ∨ ∃ g, v2'.ownBlock = some g ∧ w.heap.size ≤ g) ∧ Turn (G.kn :: G.s2 :: v2.ownBlock.toList) w w' := by
  have hlen : 0 < bs.length := List.length_pos_iff.2 h0
  rcases hb with ⟨_, rfl⟩ | ⟨b, off, cap, rfl, ⟨hc1, hc2⟩, hblt, hcell⟩
  · exact absurd rfl h0
  have hbn := hbk b off _ _ rfl
  have hbf := fun q => befall_c G.kn G.fb G.th k.used G.tr G.fv G.faults G.now G.last bs.length true (w.drewN q) (h.kn : KnAt (w.drewN q) _ _ _ _ _ _ _) (h.fl : Fl (w.drewN q) _ _ _) h.fit h.mild
  have hus := befS_used G.faults k.used bs.length h.fit
  have hmin : min bs.length 9223372036854775807 = bs.length := by omega
  have hroom : Calls Tryz.prog 270 #[ptr G.kn, iSk G.s2] w fun r w' => r = .returned (.tuple #[.int .i64 (9223372036854775807 : Nat), .int .i64 0]) ∧ ∃ q, w' = w.drewN q := by
    refine (room_sk G.kn G.s2 w).mono ?_
    rintro r w' ⟨rfl, rfl⟩
    exact ⟨by simp, 0, rfl⟩
  refine twrite_c G.tb G.kn 2 (has3 G) 139 G.s2 _ _ w h.tb (by decide) (has2 G) ?_
  rcases befS_err G.faults k.used bs.length with he | he
  · have hok := befS_ok G.faults k.used bs.length (by omega) he
    obtain ⟨n, hn⟩ : ∃ n : Nat, (befS G.faults k.used bs.length).1 = (n : Int) := ⟨(befS G.faults k.used bs.length).1.toNat, by omega⟩
    have hn1 : 1 ≤ n ∧ n ≤ bs.length := by omega
    have hrs : writeS G.faults k true bs = (⟨n, [], 0⟩, { k with used := (befS G.faults k.used bs.length).2.2, err := k.err ++ bs.take n }) := by
      unfold writeS; rw [if_pos he, hn]; simp
    rw [hrs]
    refine (write_ok G.kn _ ⟨b, off, none⟩ bs.length cap 9223372036854775807 n (fun w' => KI G w' { k with used := (befS G.faults k.used bs.length).2.2 } rv v1 v2 ∧ Turn [G.kn] w w')
      (fun w' => ∃ v2', KI G w' { k with used := (befS G.faults k.used bs.length).2.2, err := k.err ++ bs.take n } rv v1 v2' ∧ (v2'.ownBlock = v2.ownBlock ∨ ∃ g, v2'.ownBlock = some g ∧ w.heap.size ≤ g) ∧ Turn (G.kn :: G.s2 :: v2.ownBlock.toList) w w') w hlen hc1 hn1.2 (isW_sk G.s2 w) hroom ?_ ?_).mono ?_
    · intro q
      rw [hmin]
      refine (hbf q).mono ?_
      rintro e w' ⟨rfl, hK, hT⟩
      have hT' : Turn [G.kn] w w' := ⟨hT.os, hT.tape, hT.output, hT.size, hT.block⟩
      exact ⟨by rw [he, hn], h.uses hT' hK hus, hT'⟩
    · rintro u ⟨hu, hTu⟩
      have hcu : ∀ j, j < n → u.cell? ⟨b, off + j, none⟩ = some (.int .u8 (((bs.take n)[j]?.getD 0).toNat : Int)) := fun j hj => by
        rw [hTu.cell (hcell j (by omega)) (by simpa using hbn), List.getElem?_take, if_pos hj]
      refine (give_sk G.kn G.s2 0 b off n cap v2 1 k.err (bs.take n) u hu.k2 hu.o2 (Nat.zero_le _) (by omega) (by rw [List.length_take]; omega) (by omega) (by omega) hcu).mono ?_
      rintro r w' ⟨⟨r0, rfl⟩, v', hS, ho, hat, hT⟩
      have hne := hu.nes
      have hr := hu.rows
      have hf := hu.fb
      have hrb := hu.rb
      have hv := hu.v12
      have hvr := hu.vr
      have hvf := hu.vf
      have hsz := hTu.size
      have hlt1 := hu.lt
      have hmem : ∀ x, x ∈ G.s2 :: v2.ownBlock.toList → x = G.s2 ∨ v2.ownBlock = some x := fun x hx => by
        rcases List.mem_cons.1 hx with h1 | h1
        · exact .inl h1
        · exact .inr (by simpa using h1)
      have hnew : ∀ x, v'.ownBlock = some x → v2.ownBlock = some x ∨ x = u.heap.size := fun x hx => by
        rcases hat with h1 | h1
        · exact .inl (h1.symm.trans hx)
        · exact .inr (by rw [hx] at h1; exact Option.some.inj h1)
      refine ⟨⟨_, rfl⟩, v', ?_, ?_, (hTu.mono (by simp)).trans (hT.mono (fun x hx => by simp at hx ⊢; exact .inr hx))⟩
      · exact { kn := hT.ob hu.kn (fun e => (hmem _ e).elim (fun e => hne.2.2.1 e) (fun e => hr.2.1 e)), fl := hu.fl.turn hT (fun e => (hmem _ e).elim (fun e => hf.2.2.2 e) (fun e => hvf.2 e)), mild := hu.mild, fit := hu.fit, tb := hT.ob hu.tb (fun e => (hmem _ e).elim (fun e => hne.2.2.2.2.2.2.2.2 e) (fun e => hr.2.2.2.2.2 e)), so := hT.ob hu.so (fun e => (hmem _ e).elim (fun e => hne.2.2.2.2.1 e) (fun e => hr.2.2.1 e)), rest := hu.rest.turn hT (fun b off n c e hm => (hmem _ hm).elim (fun e2 => hrb.2.2.2 ((hu.rblk b off n c e).symm.trans e2)) (fun e2 => hvr.2 (by rw [← hu.rblk b off n c e]; exact e2))), rblk := hu.rblk, k1 := hT.ob hu.k1 (fun e => (hmem _ e).elim (fun e => hu.s12 e) (fun e => hr.2.2.2.1 e)), o1 := own_turn hu.o1 hT (fun g hg e => (hmem _ e).elim (fun e2 => hr.1.2.2.2.1 (by rw [hg, e2])) (fun e2 => hv g hg e2)), k2 := hS, o2 := ho, s12 := hu.s12, lt := ⟨Nat.lt_of_lt_of_le hlt1.1 hT.size, Nat.lt_of_lt_of_le hlt1.2 hT.size⟩, v12 := fun x hx hx2 => (hnew x hx2).elim (fun e => hv x hx e) (fun e => by have := own_lt hu.o1 hx; omega), vr := ⟨hvr.1, fun e => (hnew _ e).elim hvr.2 (fun e => by omega)⟩, vf := ⟨hvf.1, fun e => (hnew _ e).elim hvf.2 (fun e => by omega)⟩, fb := hu.fb, rb := hu.rb }
      · rcases hat with h1 | h1
        · exact .inl h1
        · exact .inr ⟨_, h1, hsz⟩
    · rintro r w' ⟨rfl, v', h1, h2, h3⟩
      exact ⟨n, 0, rfl, v', rfl, h1, h2, h3⟩
  · have hrs : writeS G.faults k true bs = (⟨0, [], 9⟩, { k with used := (befS G.faults k.used bs.length).2.2 }) := by
      unfold writeS; rw [if_neg (by rw [he]; decide), he]
    rw [hrs]
    refine (write_err G.kn _ (some ⟨b, off, none⟩) bs.length cap 9223372036854775807 (befS G.faults k.used bs.length).1 9 (fun w' => KI G w' { k with used := (befS G.faults k.used bs.length).2.2 } rv v1 v2 ∧ Turn (G.kn :: G.s2 :: v2.ownBlock.toList) w w') w hlen (by decide) (isW_sk G.s2 w) hroom ?_).mono ?_
    · intro q
      rw [hmin]
      refine (hbf q).mono ?_
      rintro e w' ⟨rfl, hK, hT⟩
      have hT' : Turn [G.kn] w w' := ⟨hT.os, hT.tape, hT.output, hT.size, hT.block⟩
      exact ⟨by rw [he], h.uses hT' hK hus, hT'.mono (by simp)⟩
    · rintro r w' ⟨rfl, h1, h2⟩
      exact ⟨0, 9, rfl, v2, rfl, h1, .inl rfl, h2⟩
end Go.Proofs.YteimilnecahifaaGreatDoor

namespace Go.Proofs.YteimilnecahifaaGreatDoor
open Go.RowKit Go.Shelf Go.Maps

theorem tb_cell' {w : World} {t k : Nat} {hs : Array Value} (h : TbAt w t k hs) (i j : Nat) {v : Value} (hj : j = 1 + i) (hi : hs[i]? = some v) : w.cell? ⟨t, j, none⟩ = some v := by rw [hj]; exact tb_cell h i hi
/-- What can be in a table. -/
def IsTh (v : Value) : Prop := v = .nilIface ∨ ∃ T a, v = .iface T a
def nilB : Value → Bool | .nilIface => true | _ => false
def fdsTo (hs : Array Value) (n : Nat) : List Nat := (List.range n).filter fun i => !nilB (hs[i]?.getD .nilIface)
theorem fdsTo_succ (hs : Array Value) (n : Nat) : fdsTo hs (n + 1) = fdsTo hs n ++ if nilB (hs[n]?.getD .nilIface) then [] else [n] := by
  unfold fdsTo
  rw [List.range_succ, List.filter_append]
  congr 1
  by_cases h : nilB (hs[n]?.getD .nilIface) = true
  · rw [if_pos h]; simp [h]
  · rw [if_neg h]; simp [h]
theorem fdsTo_le (hs : Array Value) (n : Nat) : (fdsTo hs n).length ≤ n := by
  have := List.length_filter_le (fun i => !nilB (hs[i]?.getD .nilIface)) (List.range n)
  simpa [fdsTo] using this
def ints (l : List Nat) : List Value := l.map fun (n : Nat) => Value.int .i64 (n : Int)
theorem ix16_0 (x0 x1 x2 x3 x4 x5 x6 x7 x8 x9 x10 x11 x12 x13 x14 x15 : Value) (w : World) : (Instr.index 144 (.agg #[x0, x1, x2, x3, x4, x5, x6, x7, x8, x9, x10, x11, x12, x13, x14, x15]) (.int .i64 0)).run Tryz.prog w = .ok x0 w := by kernel_rfl
theorem ix16_1 (x0 x1 x2 x3 x4 x5 x6 x7 x8 x9 x10 x11 x12 x13 x14 x15 : Value) (w : World) : (Instr.index 144 (.agg #[x0, x1, x2, x3, x4, x5, x6, x7, x8, x9, x10, x11, x12, x13, x14, x15]) (.int .i64 1)).run Tryz.prog w = .ok x1 w := by kernel_rfl
theorem ix16_2 (x0 x1 x2 x3 x4 x5 x6 x7 x8 x9 x10 x11 x12 x13 x14 x15 : Value) (w : World) : (Instr.index 144 (.agg #[x0, x1, x2, x3, x4, x5, x6, x7, x8, x9, x10, x11, x12, x13, x14, x15]) (.int .i64 2)).run Tryz.prog w = .ok x2 w := by kernel_rfl
theorem ix16_3 (x0 x1 x2 x3 x4 x5 x6 x7 x8 x9 x10 x11 x12 x13 x14 x15 : Value) (w : World) : (Instr.index 144 (.agg #[x0, x1, x2, x3, x4, x5, x6, x7, x8, x9, x10, x11, x12, x13, x14, x15]) (.int .i64 3)).run Tryz.prog w = .ok x3 w := by kernel_rfl
theorem ix16_4 (x0 x1 x2 x3 x4 x5 x6 x7 x8 x9 x10 x11 x12 x13 x14 x15 : Value) (w : World) : (Instr.index 144 (.agg #[x0, x1, x2, x3, x4, x5, x6, x7, x8, x9, x10, x11, x12, x13, x14, x15]) (.int .i64 4)).run Tryz.prog w = .ok x4 w := by kernel_rfl
theorem ix16_5 (x0 x1 x2 x3 x4 x5 x6 x7 x8 x9 x10 x11 x12 x13 x14 x15 : Value) (w : World) : (Instr.index 144 (.agg #[x0, x1, x2, x3, x4, x5, x6, x7, x8, x9, x10, x11, x12, x13, x14, x15]) (.int .i64 5)).run Tryz.prog w = .ok x5 w := by kernel_rfl
theorem ix16_6 (x0 x1 x2 x3 x4 x5 x6 x7 x8 x9 x10 x11 x12 x13 x14 x15 : Value) (w : World) : (Instr.index 144 (.agg #[x0, x1, x2, x3, x4, x5, x6, x7, x8, x9, x10, x11, x12, x13, x14, x15]) (.int .i64 6)).run Tryz.prog w = .ok x6 w := by kernel_rfl
theorem ix16_7 (x0 x1 x2 x3 x4 x5 x6 x7 x8 x9 x10 x11 x12 x13 x14 x15 : Value) (w : World) : (Instr.index 144 (.agg #[x0, x1, x2, x3, x4, x5, x6, x7, x8, x9, x10, x11, x12, x13, x14, x15]) (.int .i64 7)).run Tryz.prog w = .ok x7 w := by kernel_rfl
theorem ix16_8 (x0 x1 x2 x3 x4 x5 x6 x7 x8 x9 x10 x11 x12 x13 x14 x15 : Value) (w : World) : (Instr.index 144 (.agg #[x0, x1, x2, x3, x4, x5, x6, x7, x8, x9, x10, x11, x12, x13, x14, x15]) (.int .i64 8)).run Tryz.prog w = .ok x8 w := by kernel_rfl
theorem ix16_9 (x0 x1 x2 x3 x4 x5 x6 x7 x8 x9 x10 x11 x12 x13 x14 x15 : Value) (w : World) : (Instr.index 144 (.agg #[x0, x1, x2, x3, x4, x5, x6, x7, x8, x9, x10, x11, x12, x13, x14, x15]) (.int .i64 9)).run Tryz.prog w = .ok x9 w := by kernel_rfl
theorem ix16_10 (x0 x1 x2 x3 x4 x5 x6 x7 x8 x9 x10 x11 x12 x13 x14 x15 : Value) (w : World) : (Instr.index 144 (.agg #[x0, x1, x2, x3, x4, x5, x6, x7, x8, x9, x10, x11, x12, x13, x14, x15]) (.int .i64 10)).run Tryz.prog w = .ok x10 w := by kernel_rfl
theorem ix16_11 (x0 x1 x2 x3 x4 x5 x6 x7 x8 x9 x10 x11 x12 x13 x14 x15 : Value) (w : World) : (Instr.index 144 (.agg #[x0, x1, x2, x3, x4, x5, x6, x7, x8, x9, x10, x11, x12, x13, x14, x15]) (.int .i64 11)).run Tryz.prog w = .ok x11 w := by kernel_rfl
theorem ix16_12 (x0 x1 x2 x3 x4 x5 x6 x7 x8 x9 x10 x11 x12 x13 x14 x15 : Value) (w : World) : (Instr.index 144 (.agg #[x0, x1, x2, x3, x4, x5, x6, x7, x8, x9, x10, x11, x12, x13, x14, x15]) (.int .i64 12)).run Tryz.prog w = .ok x12 w := by kernel_rfl
theorem ix16_13 (x0 x1 x2 x3 x4 x5 x6 x7 x8 x9 x10 x11 x12 x13 x14 x15 : Value) (w : World) : (Instr.index 144 (.agg #[x0, x1, x2, x3, x4, x5, x6, x7, x8, x9, x10, x11, x12, x13, x14, x15]) (.int .i64 13)).run Tryz.prog w = .ok x13 w := by kernel_rfl
theorem ix16_14 (x0 x1 x2 x3 x4 x5 x6 x7 x8 x9 x10 x11 x12 x13 x14 x15 : Value) (w : World) : (Instr.index 144 (.agg #[x0, x1, x2, x3, x4, x5, x6, x7, x8, x9, x10, x11, x12, x13, x14, x15]) (.int .i64 14)).run Tryz.prog w = .ok x14 w := by kernel_rfl
theorem ix16_15 (x0 x1 x2 x3 x4 x5 x6 x7 x8 x9 x10 x11 x12 x13 x14 x15 : Value) (w : World) : (Instr.index 144 (.agg #[x0, x1, x2, x3, x4, x5, x6, x7, x8, x9, x10, x11, x12, x13, x14, x15]) (.int .i64 15)).run Tryz.prog w = .ok x15 w := by kernel_rfl
theorem ix16 (x0 x1 x2 x3 x4 x5 x6 x7 x8 x9 x10 x11 x12 x13 x14 x15 : Value) (i : Nat) (hi : i < 16) (w : World) : (Instr.index 144 (.agg #[x0, x1, x2, x3, x4, x5, x6, x7, x8, x9, x10, x11, x12, x13, x14, x15]) (.int .i64 i)).run Tryz.prog w = .ok ((#[x0, x1, x2, x3, x4, x5, x6, x7, x8, x9, x10, x11, x12, x13, x14, x15] : Array Value)[i]?.getD .nilIface) w := by
  have h : i = 0 ∨ i = 1 ∨ i = 2 ∨ i = 3 ∨ i = 4 ∨ i = 5 ∨ i = 6 ∨ i = 7 ∨ i = 8 ∨ i = 9 ∨ i = 10 ∨ i = 11 ∨ i = 12 ∨ i = 13 ∨ i = 14 ∨ i = 15 := by omega
  rcases h with rfl | rfl | rfl | rfl | rfl | rfl | rfl | rfl | rfl | rfl | rfl | rfl | rfl | rfl | rfl | rfl
  · exact ix16_0 x0 x1 x2 x3 x4 x5 x6 x7 x8 x9 x10 x11 x12 x13 x14 x15 w
  · exact ix16_1 x0 x1 x2 x3 x4 x5 x6 x7 x8 x9 x10 x11 x12 x13 x14 x15 w
  · exact ix16_2 x0 x1 x2 x3 x4 x5 x6 x7 x8 x9 x10 x11 x12 x13 x14 x15 w
  · exact ix16_3 x0 x1 x2 x3 x4 x5 x6 x7 x8 x9 x10 x11 x12 x13 x14 x15 w
  · exact ix16_4 x0 x1 x2 x3 x4 x5 x6 x7 x8 x9 x10 x11 x12 x13 x14 x15 w
  · exact ix16_5 x0 x1 x2 x3 x4 x5 x6 x7 x8 x9 x10 x11 x12 x13 x14 x15 w
  · exact ix16_6 x0 x1 x2 x3 x4 x5 x6 x7 x8 x9 x10 x11 x12 x13 x14 x15 w
  · exact ix16_7 x0 x1 x2 x3 x4 x5 x6 x7 x8 x9 x10 x11 x12 x13 x14 x15 w
  · exact ix16_8 x0 x1 x2 x3 x4 x5 x6 x7 x8 x9 x10 x11 x12 x13 x14 x15 w
  · exact ix16_9 x0 x1 x2 x3 x4 x5 x6 x7 x8 x9 x10 x11 x12 x13 x14 x15 w
  · exact ix16_10 x0 x1 x2 x3 x4 x5 x6 x7 x8 x9 x10 x11 x12 x13 x14 x15 w
  · exact ix16_11 x0 x1 x2 x3 x4 x5 x6 x7 x8 x9 x10 x11 x12 x13 x14 x15 w
  · exact ix16_12 x0 x1 x2 x3 x4 x5 x6 x7 x8 x9 x10 x11 x12 x13 x14 x15 w
  · exact ix16_13 x0 x1 x2 x3 x4 x5 x6 x7 x8 x9 x10 x11 x12 x13 x14 x15 w
  · exact ix16_14 x0 x1 x2 x3 x4 x5 x6 x7 x8 x9 x10 x11 x12 x13 x14 x15 w
  · exact ix16_15 x0 x1 x2 x3 x4 x5 x6 x7 x8 x9 x10 x11 x12 x13 x14 x15 w
theorem info3m : (Tryz.prog.info? 3).map (fun i => (i.zero, i.size, i.bytes)) = some (some (.int .i64 0), 1, 8) := by kernel_rfl

set_option maxRecDepth 100000 in
set_option maxHeartbeats 4000000 in
theorem fds_g (t k : Nat) (x0 x1 x2 x3 x4 x5 x6 x7 x8 x9 x10 x11 x12 x13 x14 x15 : Value) (w : World) (hT : TbAt w t k #[x0, x1, x2, x3, x4, x5, x6, x7, x8, x9, x10, x11, x12, x13, x14, x15]) (hth : ∀ i, i < 16 → IsTh ((#[x0, x1, x2, x3, x4, x5, x6, x7, x8, x9, x10, x11, x12, x13, x14, x15] : Array Value)[i]?.getD .nilIface)) :
    Calls Tryz.prog 171 #[ptr t] w fun e w' => ∃ v, e = .returned v ∧ w'.ownsRow w.heap.size 3 1 v (fdsTo #[x0, x1, x2, x3, x4, x5, x6, x7, x8, x9, x10, x11, x12, x13, x14, x15] 16).length (ints (fdsTo #[x0, x1, x2, x3, x4, x5, x6, x7, x8, x9, x10, x11, x12, x13, x14, x15] 16)) ∧ Below w.heap.size w w' := by
  have c0 := tb_cell' hT 0 1 rfl rfl
  have c1 := tb_cell' hT 1 2 rfl rfl
  have c2 := tb_cell' hT 2 3 rfl rfl
  have c3 := tb_cell' hT 3 4 rfl rfl
  have c4 := tb_cell' hT 4 5 rfl rfl
  have c5 := tb_cell' hT 5 6 rfl rfl
  have c6 := tb_cell' hT 6 7 rfl rfl
  have c7 := tb_cell' hT 7 8 rfl rfl
  have c8 := tb_cell' hT 8 9 rfl rfl
  have c9 := tb_cell' hT 9 10 rfl rfl
  have c10 := tb_cell' hT 10 11 rfl rfl
  have c11 := tb_cell' hT 11 12 rfl rfl
  have c12 := tb_cell' hT 12 13 rfl rfl
  have c13 := tb_cell' hT 13 14 rfl rfl
  have c14 := tb_cell' hT 14 15 rfl rfl
  have c15 := tb_cell' hT 15 16 rfl rfl
  obtain ⟨i3, hi3, hz0, hz1, hz2⟩ := info_parts info3m
  have q1 := nil_neq
  have q2 := nil_nnil
  have hix0 := ix16 x0 x1 x2 x3 x4 x5 x6 x7 x8 x9 x10 x11 x12 x13 x14 x15
  have HX := Lib.hid hix0
  have HH := Lib.hid hth
  clear hT hth hix0
  go_enter Tryz.func171, Tryz.ntmps171
  go_wp2_with fail
  clear c0 c1 c2 c3 c4 c5 c6 c7 c8 c9 c10 c11 c12 c13 c14 c15
  generalize hhs : (#[x0, x1, x2, x3, x4, x5, x6, x7, x8, x9, x10, x11, x12, x13, x14, x15] : Array Value) = hs at HX HH ⊢
  go_loopg [3, 10] 16 (fun g v3 v10 wr => ∃ (i : Nat) (a : Option Addr) (c : Nat), i + g = 16 ∧ v10 = .int .i64 i ∧ v3 = .slice a (fdsTo hs i).length c ∧ Hid (wr.ownsRow w.heap.size 3 1 (.slice a (fdsTo hs i).length c) (fdsTo hs i).length (ints (fdsTo hs i)) ∧ Below w.heap.size w wr))
  case atStart => exact ⟨0, none, 0, rfl, rfl, rfl, by simpa [fdsTo, ints] using World.ownsRow_nil _ _ _ _, Below.refl _ _⟩
  case round =>
    obtain ⟨i, a, c, hig, rfl, rfl, HI⟩ := hrel
    cases gk with
    | zero =>
      obtain rfl : i = 16 := by omega
      go_wp2_with fail
      go_ret
      exact ⟨_, rfl, HI.out.1, HI.out.2⟩
    | succ g =>
      have hlt : (i : Int) < 16 := by omega
      have hix := HX.out i (by omega)
      rcases HH.out i (by omega) with hn | ⟨T, v, hn⟩
      · rw [hn] at hix
        have HC : Hid (fdsTo hs (i + 1) = fdsTo hs i) := by show _ = _; rw [fdsTo_succ, hn]; simp [nilB]
        clear hn
        go_wp2_with fail
        go_roundg g
        case measure => omega
        case rel => exact ⟨i + 1, a, c, by omega, by go_num, by rw [HC.out], by rw [HC.out]; exact HI.out⟩
      · rw [hn] at hix
        have HC : Hid (fdsTo hs (i + 1) = fdsTo hs i ++ [i]) := by show _ = _; rw [fdsTo_succ, hn]; simp [nilB]
        have hcl := fdsTo_le hs i
        obtain ⟨ho, hB⟩ := HI.out
        have hz := hB.size
        have HE : Hid (ints (fdsTo hs i ++ [i]) = ints (fdsTo hs i) ++ [.int .i64 (i : Int)]) := by show _ = _; simp [ints]
        have HL : Hid ((fdsTo hs i ++ [i]).length = (fdsTo hs i).length + 1) := by show _ = _; simp
        generalize fdsTo hs i = l at *
        clear hn HI
        go_wp2_with (at_builtin; refine wpList_append_lies _ rfl (.tmp 16) (.tmp 18) 44 rfl w.heap.size 3 i3 (.int .i64 0) 1 8 Tryz.underlying44 hi3 hz0 hz1 hz2 rfl (by decide) (.slice a l.length c) l.length (ints l) rfl (ho.alloc _) ⟨wr.heap.size, 0, none⟩ 1 1 [.int .i64 i] rfl rfl (World.news_of_block (cs := #[.int .i64 i]) (al_new _ _ rfl)) (by simp [Value.oneCell']) (by decide) (by unfold maxLen; omega) (by omega) (by simp; omega) _ rfl ?_; intro g2 cap2 w2 hown hgrow hat hlt2)
        go_roundg g
        case measure => omega
        case rel =>
          refine ⟨i + 1, some ⟨g2, 0, none⟩, cap2, by omega, by go_num, by rw [HC.out, HL.out], ?_, ?_⟩
          · rw [HC.out, HL.out, HE.out]; exact hown
          · exact (hB.alloc hz _).grown hgrow (by simp; omega) (fun j ej => own_ge ho ej)
end Go.Proofs.YteimilnecahifaaGreatDoor
