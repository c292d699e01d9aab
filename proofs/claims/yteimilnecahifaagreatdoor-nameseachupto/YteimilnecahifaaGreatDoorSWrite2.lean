/- Calls of the kernel in both passes of main: Read, Write, Hold, Drop. -/
import Derived.Test.YteimilnecahifaaGreatDoorMPs
import Derived.Deep.LoopGhost
namespace Go.Proofs.YteimilnecahifaaGreatDoor
open Go.RowKit Go.Shelf Go.Maps

def Sx.did (s : Sx) (k : KC) : Sx := { s with k := k, steps := s.steps + 1 }
def Sx.holds (s : Sx) (n : Int) : Sx := { s with held := s.held + n, peak := max s.peak (s.held + n) }
section
variable {E : Ev} {md : Option Bool} {w : World} {s : Sx} {M : List Nat}
theorem PS.nm (h : PS E md w s M) {b : Nat} (hb : b ∈ M) : b ≠ E.G.m ∧ b ≠ E.G.p := by
  obtain ⟨rv, v1, v2, hp, h1, h2, h3⟩ := h.ex
  have := (h1 b hb).2
  rw [mem_privL] at this
  exact ⟨fun e => this (.inr (.inl e)), fun e => this (.inl e)⟩
theorem PS.waits (h : PS E none w s M) {w' : World} {e : Ending} {c : KCall} (hc : E.c0 = c) (hr : e = .panicked waitsP ∧ ∃ nx, (∃ f y z, nx = .func f y z) ∧ Wt E.G w' c nx ∧ McAt w' E.G.m E.G.p E.G.main (.slice none 0 0) 0 nx false 0 false 0 ∧ Turn [E.G.m] w w') : Waits none E M e w w' := by
  obtain ⟨he, nx, hnx, hwt, hmc, hT⟩ := hr
  obtain ⟨rv, v1, v2, ⟨hp, _, _⟩, h1, h2, h3⟩ := h.ex
  have hne : E.G.p ≠ E.G.m := h_ne hp.pr hp.mc (by decide)
  refine ⟨rfl, he, ⟨nx, hnx, by rw [hc]; exact hwt, hmc⟩, hT.ob hp.pr (by simpa using hne), h.since.trans (hT.mono (by simp [Xs])), [E.G.m], hT, fun b hb => ?_⟩
  simpa using (h.nm hb).1
theorem PB.rows {G : Gh} {fresh : Bool} {k : KC} {held peak steps : Int} {rv v1 v2 : Value} (h : PB G w fresh k held peak steps rv v1 v2) : (∀ b, v1.ownBlock = some b → b < w.heap.size) ∧ ∀ b, v2.ownBlock = some b → b < w.heap.size := by
  obtain ⟨ka, hk, _⟩ := h.act
  exact ⟨fun b e => own_lt hk.o1 e, fun b e => own_lt hk.o2 e⟩
/-- Behind a call that was done. -/
theorem PS.step {f f' : Bool} (h : PS E (some f) w s M) {rv v1 v2 rv' v1' v2' : Value} {s' : Sx} {w' : World} {N : List Nat} (hp : PSt (some f) E.G w s rv v1 v2) (m1 : ∀ b ∈ M, b < w.heap.size ∧ b ∉ privL E.G v1 v2)
    (m2 : ∀ b, v1.ownBlock = some b → b < w.heap.size ∧ (E.u1.ownBlock = some b ∨ E.W0.heap.size ≤ b)) (m3 : ∀ b, v2.ownBlock = some b → b < w.heap.size ∧ (E.u2.ownBlock = some b ∨ E.W0.heap.size ≤ b))
    (hp' : PSt (some f') E.G w' s' rv' v1' v2') (hT : Turn (privL E.G v1 v2) w w') (hv1 : ∀ b, v1'.ownBlock = some b → v1.ownBlock = some b ∨ w.heap.size ≤ b) (hv2 : ∀ b, v2'.ownBlock = some b → v2.ownBlock = some b ∨ w.heap.size ≤ b)
    (hf : f' = true → f = true) (hz : some f' ≠ some false → s'.held = 0 ∧ s'.peak = 0 ∧ s'.steps = 0) (hn : 0 ≤ s'.held ∧ s'.held ≤ 9223372036854775807 ∧ 0 ≤ s'.steps)
    (hN : ∀ b ∈ N, b ∈ M ∨ (w.heap.size ≤ b ∧ b < w'.heap.size ∧ v1'.ownBlock ≠ some b ∧ v2'.ownBlock ≠ some b)) : PS E (some f') w' s' N ∧ Kept M w w' := by
  have hrow := PB.rows hp'
  have hsn := h.since
  have hsz := hsn.size
  obtain ⟨a1, a2, a3, a4, a5, a6, a7, a8, a9, b1, b2, b3, b4⟩ := PB.lts hp
  have hbs := PB.base hp
  refine ⟨⟨⟨rv', v1', v2', hp', fun b hb => ?_, fun b e => ⟨hrow.1 b e, ?_⟩, fun b e => ⟨hrow.2 b e, ?_⟩⟩, ?_, fun e => h.first (by rw [hf (by simpa using e)]), hz, hn, h.fit, h.st⟩, privL E.G v1 v2, hT, fun b hb => (m1 b hb).2⟩
  · rcases hN b hb with hb | ⟨hb, hb', n1, n2⟩
    · refine ⟨Nat.lt_of_lt_of_le (m1 b hb).1 hT.size, fun e => ?_⟩
      have hlt := (m1 b hb).1
      apply (m1 b hb).2
      rw [mem_privL] at e ⊢
      rcases e with e | e | e | e | e | e | e | e
      · exact .inl e
      · exact .inr (.inl e)
      · exact .inr (.inr (.inl e))
      · exact .inr (.inr (.inr (.inl e)))
      · exact .inr (.inr (.inr (.inr (.inl e))))
      · exact .inr (.inr (.inr (.inr (.inr (.inl e)))))
      · rcases hv1 b e with e | e
        · exact .inr (.inr (.inr (.inr (.inr (.inr (.inl e))))))
        · omega
      · rcases hv2 b e with e | e
        · exact .inr (.inr (.inr (.inr (.inr (.inr (.inr e))))))
        · omega
    · refine ⟨hb', fun e => ?_⟩
      rw [mem_privL] at e
      rcases e with e | e | e | e | e | e | e | e
      · omega
      · omega
      · omega
      · omega
      · omega
      · omega
      · exact n1 e
      · exact n2 e
  · rcases hv1 b e with e | e
    · exact (m2 b e).2
    · exact .inr (by omega)
  · rcases hv2 b e with e | e
    · exact (m3 b e).2
    · exact .inr (by omega)
  · refine ⟨hT.os.trans hsn.os, hT.tape.trans hsn.tape, hT.output.trans hsn.output, Nat.le_trans hsn.size hT.size, fun b hb' hx => ?_⟩
    refine (hT.block b (Nat.lt_of_lt_of_le hb' hsn.size) (fun e => ?_)).trans (hsn.block b hb' hx)
    apply hx
    show b ∈ privL E.G E.u1 E.u2
    rw [mem_privL] at e ⊢
    rcases e with e | e | e | e | e | e | e | e
    · exact .inl e
    · exact .inr (.inl e)
    · exact .inr (.inr (.inl e))
    · exact .inr (.inr (.inr (.inl e)))
    · exact .inr (.inr (.inr (.inr (.inl e))))
    · exact .inr (.inr (.inr (.inr (.inr (.inl e)))))
    · rcases (m2 b e).2 with e | e
      · exact .inr (.inr (.inr (.inr (.inr (.inr (.inl e))))))
      · omega
    · rcases (m3 b e).2 with e | e
      · exact .inr (.inr (.inr (.inr (.inr (.inr (.inr e))))))
      · omega

theorem steps_sum (n : Int) (fresh : Bool) : n + (if fresh then 1 else 0) + (if fresh then 0 else 1) = n + 1 + (if false = true then 1 else 0) := by cases fresh <;> simp

theorem PS.write1 (h : PS E md w s M) (b : Value) (bs : List UInt8) (hb : ByAt w b bs) (hb0 : bs ≠ []) (hL : bs.length ≤ 1073741824) (hO : s.k.out.length ≤ 549755813888) (h1 : s.steps < 4611686018427387903) (hc : md ≠ some false → E.c0 = .write false bs) :
    Calls Tryz.prog 218 #[ptr E.G.p, .int .i64 1, b] w fun e w' => Waits md E M e w w' ∨ (md ≠ none ∧ e = .returned (.tuple #[.int .i64 (writeS E.G.faults s.k false bs).1.num, .int .i64 (writeS E.G.faults s.k false bs).1.err]) ∧ PS E (some false) w' (s.did (writeS E.G.faults s.k false bs).2) M ∧ Kept M w w') := by
  obtain ⟨rv, v1, v2, hp, m1, m2, m3⟩ := h.ex
  cases md with
  | none =>
    refine (pwrite_A1 hp.1.pr hp.1.mc hp.1.base b bs hb hL).mono ?_
    rintro e w' hr
    exact .inl (h.waits (hc (by simp)) hr)
  | some fresh =>
    have hn := h.nn
    refine (pwrite_B1 (fresh := fresh) hp b bs hb hb0 hL hO (fun e => by rw [h.first (by rw [e]), hc (by rw [e]; simp)]) (by split <;> omega) (by split <;> omega)).mono ?_
    rintro e w' ⟨v', rfl, hp', hv, hT⟩
    rw [steps_sum] at hp'
    refine .inr ⟨by simp, rfl, h.step (f' := false) (s' := s.did (writeS E.G.faults s.k false bs).2) hp m1 m2 m3 hp' (hT.mono (fun b hb => ?_)) hv (fun b e => .inl e) (fun e => by cases e) (fun e => absurd rfl e) ⟨hn.1, hn.2.1, by show 0 ≤ s.steps + 1; omega⟩ (fun b hb => .inl hb)⟩
    rw [mem_privL]
    simp only [List.mem_cons, Option.mem_toList] at hb
    rcases hb with e | e | e | e
    · exact .inr (.inl e)
    · exact .inr (.inr (.inl e))
    · exact .inr (.inr (.inr (.inr (.inl e))))
    · exact .inr (.inr (.inr (.inr (.inr (.inr (.inl e))))))
theorem PS.write2 (h : PS E md w s M) (b : Value) (bs : List UInt8) (hb : ByAt w b bs) (hb0 : bs ≠ []) (hL : bs.length ≤ 1073741824) (hO : s.k.err.length ≤ 549755813888) (h1 : s.steps < 4611686018427387903) (hc : md ≠ some false → E.c0 = .write true bs) :
    Calls Tryz.prog 218 #[ptr E.G.p, .int .i64 2, b] w fun e w' => Waits md E M e w w' ∨ (md ≠ none ∧ e = .returned (.tuple #[.int .i64 (writeS E.G.faults s.k true bs).1.num, .int .i64 (writeS E.G.faults s.k true bs).1.err]) ∧ PS E (some false) w' (s.did (writeS E.G.faults s.k true bs).2) M ∧ Kept M w w') := by
  obtain ⟨rv, v1, v2, hp, m1, m2, m3⟩ := h.ex
  cases md with
  | none =>
    refine (pwrite_A2 hp.1.pr hp.1.mc hp.1.base b bs hb hL).mono ?_
    rintro e w' hr
    exact .inl (h.waits (hc (by simp)) hr)
  | some fresh =>
    have hn := h.nn
    refine (pwrite_B2 (fresh := fresh) hp b bs hb hb0 hL hO (fun e => by rw [h.first (by rw [e]), hc (by rw [e]; simp)]) (by split <;> omega) (by split <;> omega)).mono ?_
    rintro e w' ⟨v', rfl, hp', hv, hT⟩
    rw [steps_sum] at hp'
    refine .inr ⟨by simp, rfl, h.step (f' := false) (s' := s.did (writeS E.G.faults s.k true bs).2) hp m1 m2 m3 hp' (hT.mono (fun b hb => ?_)) (fun b e => .inl e) hv (fun e => by cases e) (fun e => absurd rfl e) ⟨hn.1, hn.2.1, by show 0 ≤ s.steps + 1; omega⟩ (fun b hb => .inl hb)⟩
    rw [mem_privL]
    simp only [List.mem_cons, Option.mem_toList] at hb
    rcases hb with e | e | e | e
    · exact .inr (.inl e)
    · exact .inr (.inr (.inl e))
    · exact .inr (.inr (.inr (.inr (.inr (.inl e)))))
    · exact .inr (.inr (.inr (.inr (.inr (.inr (.inr e))))))

end
end Go.Proofs.YteimilnecahifaaGreatDoor

namespace Go.Proofs.YteimilnecahifaaGreatDoor
open Go.RowKit Go.Shelf Go.Maps

theorem befS_cases (l : List (Int × Int)) (u : Nat) (most : Int) (hm : 1 ≤ most) (hu : u ≤ l.length) :
    (∃ n u', befS l u most = (n, 0, u') ∧ 1 ≤ n ∧ n ≤ most ∧ u ≤ u' ∧ u' ≤ l.length ∧ u' ≤ u + 1 ∧ (n < most → u' = u + 1)) ∨ (befS l u most = (0, 9, u + 1) ∧ u + 1 ≤ l.length) := by
  unfold befS
  by_cases h : u < l.length
  · rw [if_pos h]
    by_cases h1 : (l[u]?.getD (0, 0)).1 = 1
    · rw [if_pos h1]
      exact .inl ⟨_, _, rfl, by omega, by omega, by omega, by omega, by omega, fun _ => rfl⟩
    rw [if_neg h1]
    by_cases h2 : (l[u]?.getD (0, 0)).1 = 2
    · rw [if_pos h2]
      exact .inr ⟨rfl, by omega⟩
    rw [if_neg h2]
    exact .inl ⟨_, _, rfl, hm, by omega, by omega, by omega, by omega, fun _ => rfl⟩
  · rw [if_neg h]
    exact .inl ⟨_, _, rfl, hm, by omega, by omega, by omega, by omega, fun h => by omega⟩

def KC.told (k : KC) (isErr : Bool) (bs : List UInt8) (u : Nat) : KC := { used := u, rest := k.rest, out := if isErr then k.out else k.out ++ bs, err := if isErr then k.err ++ bs else k.err }
theorem writeS_cases (l : List (Int × Int)) (k : KC) (isErr : Bool) (bs : List UInt8) (hb : bs ≠ []) (hu : k.used ≤ l.length) :
    (∃ (n u' : Nat), writeS l k isErr bs = (⟨n, [], 0⟩, k.told isErr (bs.take n) u') ∧ 1 ≤ n ∧ n ≤ bs.length ∧ k.used ≤ u' ∧ u' ≤ l.length ∧ u' ≤ k.used + 1) ∨ (writeS l k isErr bs = (⟨0, [], 9⟩, { k with used := k.used + 1 }) ∧ k.used + 1 ≤ l.length) := by
  have hl : 1 ≤ (bs.length : Int) := by have := List.length_pos_iff.2 hb; omega
  unfold writeS
  rcases befS_cases l k.used bs.length hl hu with ⟨n, u', e, h1, h2, h3, h4, h5, _⟩ | ⟨e, h1⟩
  · rw [e]
    obtain ⟨m, rfl⟩ : ∃ m : Nat, n = m := ⟨n.toNat, by omega⟩
    refine .inl ⟨m, u', ?_, by omega, by omega, h3, h4, h5⟩
    simp [KC.told]
  · rw [e]
    exact .inr ⟨by simp, h1⟩

/-- All bytes were written. -/
structure Wrote (l : List (Int × Int)) (s s' : Sx) (isErr : Bool) (bs : List UInt8) : Prop where
  k : ∃ u, s'.k = s.k.told isErr bs u ∧ s.k.used ≤ u ∧ u ≤ l.length ∧ s'.steps ≤ s.steps + bs.length + (u - s.k.used : Nat)
  held : s'.held = s.held
  peak : s'.peak = s.peak
  steps : s.steps ≤ s'.steps
theorem Wrote.refl (l : List (Int × Int)) (s : Sx) (isErr : Bool) (hu : s.k.used ≤ l.length) : Wrote l s s isErr [] :=
  ⟨⟨s.k.used, by cases isErr <;> simp [KC.told], Nat.le_refl _, hu, by simp⟩, rfl, rfl, Int.le_refl _⟩
theorem told_told (k : KC) (isErr : Bool) (a b : List UInt8) (u u' : Nat) : (k.told isErr a u).told isErr b u' = k.told isErr (a ++ b) u' := by cases isErr <;> simp [KC.told]
theorem Wrote.trans {l : List (Int × Int)} {s s1 s2 : Sx} {isErr : Bool} {a b : List UInt8} (h : Wrote l s s1 isErr a) (g : Wrote l s1 s2 isErr b) : Wrote l s s2 isErr (a ++ b) := by
  obtain ⟨u, e, h1, h2, h3⟩ := h.k
  obtain ⟨u', e', g1, g2, g3⟩ := g.k
  have eu : s1.k.used = u := by rw [e]; rfl
  rw [eu] at g1 g3
  exact ⟨⟨u', by rw [e', e, told_told], by omega, g2, by rw [List.length_append]; omega⟩, g.held.trans h.held, g.peak.trans h.peak, Int.le_trans h.steps g.steps⟩

/-- The bytes behind the first n. -/
theorem ByAt.tail {w : World} {a : Option Addr} {L cap n : Nat} {d : List UInt8} (h : ByAt w (.slice a L cap) d) (hn : n ≤ L) : L = d.length ∧ L ≤ cap ∧ cap ≤ 9223372036854775807 ∧ ∀ x, (cap = n → x = a) → (cap ≠ n → x = a.map (fun q => ⟨q.block, q.off + n, none⟩)) → ByAt w (.slice x (L - n) (cap - n)) (d.drop n) := by
  rcases h with ⟨e, rfl⟩ | ⟨b, off, c, e, ⟨h1, h2⟩, h3, h4⟩
  · cases e
    refine ⟨rfl, Nat.le_refl _, by decide, fun x hx _ => .inl ⟨?_, by simp⟩⟩
    have : n = 0 := by omega
    subst this
    rw [hx rfl]
  · cases e
    refine ⟨rfl, h1, h2, fun x hx hx2 => ?_⟩
    by_cases hc : cap = n
    · rw [hx hc]
      exact .inr ⟨b, off, cap - n, by rw [List.length_drop], by rw [List.length_drop]; omega, h3, fun j hj => by rw [List.length_drop] at hj; omega⟩
    · rw [hx2 hc]
      refine .inr ⟨b, off + n, cap - n, by rw [List.length_drop]; rfl, by rw [List.length_drop]; omega, h3, fun j hj => ?_⟩
      rw [List.length_drop] at hj
      have := h4 (n + j) (by omega)
      rw [← Nat.add_assoc] at this
      rw [this]
      simp
section
variable {E : Ev} {md : Option Bool} {w : World} {s : Sx} {M : List Nat}
theorem PS.write (h : PS E md w s M) (isErr : Bool) (b : Value) (bs : List UInt8) (hb : ByAt w b bs) (hb0 : bs ≠ []) (hL : bs.length ≤ 1073741824) (hO : s.k.out.length ≤ 549755813888 ∧ s.k.err.length ≤ 549755813888) (h1 : s.steps < 4611686018427387903) (hc : md ≠ some false → E.c0 = .write isErr bs) :
    Calls Tryz.prog 218 #[ptr E.G.p, .int .i64 (if isErr then 2 else 1), b] w fun e w' => Waits md E M e w w' ∨ (md ≠ none ∧ e = .returned (.tuple #[.int .i64 (writeS E.G.faults s.k isErr bs).1.num, .int .i64 (writeS E.G.faults s.k isErr bs).1.err]) ∧ PS E (some false) w' (s.did (writeS E.G.faults s.k isErr bs).2) M ∧ Kept M w w') := by
  cases isErr with
  | false => exact h.write1 b bs hb hb0 hL hO.1 h1 hc
  | true => exact h.write2 b bs hb hb0 hL hO.2 h1 hc
end
end Go.Proofs.YteimilnecahifaaGreatDoor

namespace Go.Proofs.YteimilnecahifaaGreatDoor
open Go.RowKit Go.Shelf Go.Maps

section
variable {E : Ev} {md : Option Bool} {w : World} {s : Sx} {M : List Nat}
theorem Waits.after {e : Ending} {w1 w2 : World} (hk : Kept M w w1) (h : Waits md E M e w1 w2) : Waits md E M e w w2 := by
  obtain ⟨h1, h2, h3, h4, h5, h6⟩ := h
  exact ⟨h1, h2, h3, h4, h5, hk.trans h6⟩
/-- What stands between two Writes. -/
structure WrI (E : Ev) (md : Option Bool) (w : World) (s : Sx) (M : List Nat) (isErr : Bool) (bs : List UInt8) (g : Nat) (v : Value) (wr : World) (done bs' : List UInt8) (md' : Option Bool) (s' : Sx) : Prop where
  cut : bs = done ++ bs'
  by' : ByAt wr v bs'
  blk : ∀ b off n c, v = .slice (some ⟨b, off, none⟩) n c → b ∈ M
  wrt : Wrote E.G.faults s s' isErr done
  ps : PS E md' wr s' M
  kp : Kept M w wr
  md0 : md' ≠ some false → done = [] ∧ md' = md
  md1 : bs = [] → md' = md
  ms : bs'.length + (E.G.faults.length - s'.k.used) ≤ g
  nn : md' = md ∨ md ≠ none

theorem ByAt.blk {v : Value} {d : List UInt8} (h : ByAt w v d) {q : Addr} {n c : Nat} (e : v = .slice (some q) n c) : q = ⟨q.block, q.off, none⟩ := by
  rcases h with ⟨rfl, _⟩ | ⟨b, off, cap, rfl, _⟩
  · cases e
  · cases e; rfl
theorem WrI.step {isErr : Bool} {bs done bs' : List UInt8} {g c m u' : Nat} {q : Addr} {x : Option Addr} {wr w2 : World} {md' : Option Bool} {s' : Sx} (h : WrI E md w s M isErr bs g (.slice (some q) bs'.length c) wr done bs' md' s') (h0 : bs' ≠ []) (hn : md' ≠ none)
    (g2 : m ≤ bs'.length) (g3 : s'.k.used ≤ u') (g4 : u' ≤ E.G.faults.length) (g5 : 1 ≤ m ∨ s'.k.used < u') (hP2 : PS E (some false) w2 (s'.did (s'.k.told isErr (bs'.take m) u')) M) (hK2 : Kept M wr w2) (hx : (c = m → x = some q) ∧ (¬ c = m → x = some (q.add m))) :
    ∃ g', g' < g ∧ WrI E md w s M isErr bs g' (.slice x (bs'.length - m) (c - m)) w2 (done ++ bs'.take m) (bs'.drop m) (some false) (s'.did (s'.k.told isErr (bs'.take m) u')) := by
  have hq := h.by'.blk rfl
  have ht := (ByAt.tail (n := m) h.by' g2).2.2.2 x hx.1 (fun e => by rw [hx.2 e, hq]; simp [Addr.add_lit])
  have hx' : ∃ o, x = some ⟨q.block, o, none⟩ := by
    by_cases e : c = m
    · exact ⟨q.off, by rw [hx.1 e, ← hq]⟩
    · exact ⟨q.off + m, by rw [hx.2 e, hq]; simp [Addr.add_lit]⟩
  obtain ⟨o, ho⟩ := hx'
  have hb : ∀ b off n c', Value.slice x (bs'.length - m) (c - m) = .slice (some ⟨b, off, none⟩) n c' → b ∈ M := fun b off n c' e => by
    rw [ho] at e
    cases e
    exact h.blk q.block q.off _ _ (by rw [← hq])
  have hlen : (bs'.take m).length = m := by rw [List.length_take]; omega
  have hw : Wrote E.G.faults s' (s'.did (s'.k.told isErr (bs'.take m) u')) isErr (bs'.take m) :=
    ⟨⟨u', rfl, g3, g4, by rw [hlen]; show s'.steps + 1 ≤ _; omega⟩, rfl, rfl, by show s'.steps ≤ s'.steps + 1; omega⟩
  have hms := h.ms
  refine ⟨bs'.length - m + (E.G.faults.length - u'), by omega, ⟨by rw [h.cut, List.append_assoc, List.take_append_drop], hK2.by ht hb, hb, h.wrt.trans hw, hP2, h.kp.trans hK2, fun e => absurd rfl e, fun e => absurd (by rw [h.cut] at e; exact (List.append_eq_nil_iff.1 e).2) h0, ?_, .inr ?_⟩⟩
  rotate_left
  · rcases h.nn with e | e
    · exact e ▸ hn
    · exact e
  rw [List.length_drop]
  exact Nat.le_refl _

theorem WrI.again {isErr : Bool} {bs done bs' : List UInt8} {g : Nat} {v : Value} {wr w2 : World} {md' : Option Bool} {s' : Sx} (h : WrI E md w s M isErr bs g v wr done bs' md' s') (h0 : bs' ≠ []) (hn : md' ≠ none)
    (g1 : s'.k.used + 1 ≤ E.G.faults.length) (hP2 : PS E (some false) w2 (s'.did { s'.k with used := s'.k.used + 1 }) M) (hK2 : Kept M wr w2) :
    ∃ g', g' < g ∧ WrI E md w s M isErr bs g' v w2 done bs' (some false) (s'.did { s'.k with used := s'.k.used + 1 }) := by
  have hw : Wrote E.G.faults s' (s'.did { s'.k with used := s'.k.used + 1 }) isErr [] :=
    ⟨⟨s'.k.used + 1, by cases isErr <;> simp [KC.told, Sx.did], by omega, g1, by show s'.steps + 1 ≤ _; simp⟩, rfl, rfl, by show s'.steps ≤ s'.steps + 1; omega⟩
  have hms := h.ms
  have hw2 := h.wrt.trans hw
  rw [List.append_nil] at hw2
  exact ⟨bs'.length + (E.G.faults.length - (s'.k.used + 1)), by omega, ⟨h.cut, hK2.by h.by' h.blk, h.blk, hw2, hP2, h.kp.trans hK2, fun e => absurd rfl e, fun e => absurd (by rw [h.cut] at e; exact (List.append_eq_nil_iff.1 e).2) h0, Nat.le_refl _, .inr (by rcases h.nn with e | e; (· exact e ▸ hn); exact e)⟩⟩

set_option maxRecDepth 100000 in
set_option maxHeartbeats 2000000 in
theorem swrite_n (h : PS E md w s M) (isErr : Bool) (v : Value) (bs : List UInt8) (hb : ByAt w v bs) (hv : ∀ b off n c, v = .slice (some ⟨b, off, none⟩) n c → b ∈ M) (hL : bs.length ≤ 1073741824) (hu : s.k.used ≤ E.G.faults.length) (hO : s.k.out.length + bs.length ≤ 549755813888 ∧ s.k.err.length + bs.length ≤ 549755813888) (hst : s.steps + bs.length + E.G.faults.length < 4611686018427387903) (hc : bs ≠ [] → md ≠ some false → E.c0 = .write isErr bs) :
    Calls Tryz.prog 189 #[ptr E.G.p, .int .i64 (if isErr then 2 else 1), v] w fun e w' => Waits md E M e w w' ∨ (e = .returned (.int .i64 0) ∧ ∃ md' s', (bs = [] → md' = md) ∧ (bs ≠ [] → md' = some false) ∧ Wrote E.G.faults s s' isErr bs ∧ PS E md' w' s' M ∧ Kept M w w' ∧ (md' = md ∨ md ≠ none)) := by
  obtain ⟨xa, cp, rfl⟩ := hb.shape
  generalize hfd : (if isErr then (2 : Int) else 1) = fd
  have H0 : Hid (WrI E md w s M isErr bs (bs.length + (E.G.faults.length - s.k.used)) (.slice xa bs.length cp) w [] bs md s) := ⟨rfl, hb, hv, Wrote.refl _ _ _ hu, h, Kept.refl _ _, fun _ => ⟨rfl, rfl⟩, fun _ => rfl, Nat.le_refl _, .inl rfl⟩
  clear h hb hv
  go_enter Tryz.func189, Tryz.ntmps189
  go_wp2_with fail
  go_loopg [2] (bs.length + (E.G.faults.length - s.k.used)) (fun g v wr => ∃ x n c done bs' md' s', v = .slice x n c ∧ Hid (WrI E md w s M isErr bs g (.slice x n c) wr done bs' md' s'))
  case atStart => exact ⟨_, _, _, [], bs, md, s, rfl, H0⟩
  case round =>
    clear H0
    obtain ⟨x, n, c, done, bs', md', s', rfl, HI⟩ := hrel
    have hI := HI.out
    by_cases h0 : bs' = []
    · have e0 : n = 0 := by have := (ByAt.tail (n := 0) hI.by' (by omega)).1; rw [this, h0]; rfl
      subst e0
      clear hI
      go_wp2_with fail
      go_ret
      have hI := HI.out
      have hd : done = bs := by rw [hI.cut, h0, List.append_nil]
      refine .inr ⟨rfl, md', s', hI.md1, fun e => ?_, hd ▸ hI.wrt, hI.ps, hI.kp, hI.nn⟩
      · exact Classical.byContradiction fun hm => e (by rw [← hd]; exact (hI.md0 hm).1)
    · obtain ⟨u0, ek, hu1, hu2, hs2⟩ := hI.wrt.k
      have hlen : bs.length = done.length + bs'.length := by rw [hI.cut, List.length_append]
      have hk' : s'.k.used = u0 := by rw [ek]; rfl
      have hout : s'.k.out.length ≤ 549755813888 ∧ s'.k.err.length ≤ 549755813888 := by rw [ek]; cases isErr <;> simp [KC.told] <;> omega
      have hwr := hI.ps.write isErr (.slice x n c) bs' hI.by' h0 (by omega) hout (by omega) (fun e => by
        have hd := (hI.md0 e)
        have e1 : bs' = bs := by rw [hI.cut, hd.1]; rfl
        rw [e1]; exact hc (e1 ▸ h0) (hd.2 ▸ e))
      rw [hfd] at hwr
      obtain ⟨hn, hcap, hmax, _⟩ := ByAt.tail (n := 0) hI.by' (by omega)
      subst hn
      obtain ⟨q, rfl⟩ : ∃ q, x = some q := by
        rcases hI.by' with ⟨_, e⟩ | ⟨b, off, cap, e, _⟩
        · exact absurd e h0
        · cases e; exact ⟨_, rfl⟩
      have hp : 0 < bs'.length := List.length_pos_iff.2 h0
      have hpi : (0 : Int) < (bs'.length : Int) := by omega
      have HW : Hid (∀ w2, Waits md' E M (.panicked waitsP) wr w2 → Waits md E M (.panicked waitsP) w w2) := fun w2 hw => by
        have hm := (hI.md0 (by rw [hw.1]; simp)).2
        rw [← hm]
        exact hw.after hI.kp
      clear hI
      rcases writeS_cases E.G.faults s'.k isErr bs' h0 (by omega) with ⟨m, u', e, g1, g2, g3, g4, g5⟩ | ⟨e, g1⟩
      · rw [e] at hwr
        have c1 : ¬ (c : Int) < (m : Int) := by omega
        have c2 : ¬ (bs'.length : Int) < (m : Int) := by omega
        have HS : Hid (s'.k.told isErr (bs'.take m) u' = (s'.did (s'.k.told isErr (bs'.take m) u')).k ∧ 1 ≤ m ∧ m ≤ bs'.length ∧ s'.k.used ≤ u' ∧ u' ≤ E.G.faults.length) := ⟨rfl, g1, g2, g3, g4⟩
        clear e g1 g2 g3 g4 g5
        go_wp2_with (go_at_call 218; refine hwr.mono ?_; rintro e w2 (⟨hmd, rfl, hW⟩ | ⟨hn, rfl, hP2, hK2⟩); (· exact ⟨rfl, .inl (HW.out w2 ⟨hmd, rfl, hW⟩)⟩))
        all_goals
          obtain ⟨_, g1, g2, g3, g4⟩ := HS.out
        · subst h
          obtain ⟨g', hg, hI'⟩ := HI.out.step h0 hn g2 g3 g4 (.inl g1) hP2 hK2 (x := some q) ⟨fun _ => rfl, fun e => absurd rfl e⟩
          rw [Nat.sub_self] at hI'
          go_roundg g'
          case measure => exact hg
          case rel => exact ⟨_, _, _, _, _, _, _, rfl, hI'⟩
        · obtain ⟨g', hg, hI'⟩ := HI.out.step h0 hn g2 g3 g4 (.inl g1) hP2 hK2 (x := some (q.add m)) ⟨fun e => absurd e h, fun _ => rfl⟩
          go_roundg g'
          case measure => exact hg
          case rel => exact ⟨_, _, _, _, _, _, _, rfl, hI'⟩
      · rw [e] at hwr
        have c1 : ¬ c = 0 := by omega
        go_wp2_with (go_at_call 218; refine hwr.mono ?_; rintro e w2 (⟨hmd, rfl, hW⟩ | ⟨hn, rfl, hP2, hK2⟩); (· exact ⟨rfl, .inl (HW.out w2 ⟨hmd, rfl, hW⟩)⟩))
        obtain ⟨g', hg, hI'⟩ := HI.out.again h0 hn g1 hP2 hK2
        go_roundg g'
        case measure => exact hg
        case rel => exact ⟨_, _, _, _, _, _, _, rfl, hI'⟩
end
end Go.Proofs.YteimilnecahifaaGreatDoor
