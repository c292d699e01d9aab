/- A reader of stepio: what is handed out; chunks. -/
import Derived.Test.YtfkoehfkiommpaaGreatDoorSRead2
import Derived.Laws.Rows
import Derived.Below
import Derived.WalkKit
import Derived.WalkSpells
import Derived.Lib.Hide
import Derived.Deep.AppendLies
import Derived.Deep.RegionLaw
import Derived.Deep.QuietTactic
import Derived.BigQuiet
import Derived.Test.YtfkoehfkiommpaaGreatDoorProg
import Derived.Laws.StructEq
namespace Go.Proofs.YtfkoehfkiommpaaGreatDoor
open Go.RowKit Go.Shelf Go.Maps

section
variable {E : Ev} {md : Option Bool} {w : World} {s : Sx} {M : List Nat} {r : Nat} {av : Value} {ah : List UInt8} {last : Int} {feed ended : Bool}
/-- What is left behind the first n bytes. -/
theorem ahead_tail {g off cap n : Nat} (h1 : g < w.heap.size) (h2 : Came w 1 (some ⟨g, off, none⟩) g off ah.length cap (u8s ah)) (h3 : cap ≤ maxLen) (hn : n ≤ ah.length) (o : Nat) (ho : (cap = n → o = off) ∧ (cap ≠ n → o = off + n)) : Ahead w (.slice (some ⟨g, o, none⟩) (ah.length - n) (cap - n)) (ah.drop n) := by
  have hle := h2.le
  refine .inr ⟨g, o, cap - n, by rw [List.length_drop], h1, ⟨by rw [List.length_drop]; omega, fun _ => rfl, fun _ => h1, by rw [u8s_length]; simp, fun j u hj => ?_, fun j hj => ?_⟩, by omega⟩
  · have hjl := (List.getElem?_eq_some_iff.1 hj).1
    rw [u8s_length, List.length_drop] at hjl
    rw [ho.2 (by omega), Nat.add_assoc]
    refine h2.olds (n + j) u ?_
    rw [← hj]
    simp [u8s]
  · rw [List.length_drop] at hj ⊢
    rw [ho.2 (by omega)]
    have := h2.spare j (by omega)
    rw [show off + n + (ah.length - n) * 1 + j = off + ah.length * 1 + j by omega]
    exact this
/-- The cells of a reader turned, its slice moved on. -/
theorem RdI.moved (h : RdI E w r av ah last feed ended M) (hp : PS E md w s (rdL r av ++ M)) {w' : World} {av' : Value} {ah' : List UInt8} {last' : Int} (hT : Turn [r] w w') (hc : RdAt w' r E.G.p 0 E.G.l1 E.G.l2 E.G.l3 av' last' feed ended) (hA : Ahead w av' ah') (hb : av'.ownBlock = av.ownBlock) (h0 : 0 ≤ last') :
    PS E md w' s (rdL r av' ++ M) ∧ RdI E w' r av' ah' last' feed ended M ∧ Kept M w w' := by
  refine ⟨hp.own hT (fun b hb' => ?_) (fun b hb' => .inl (by rw [rdL, ← hb]; exact hb')), ⟨hc, hA.turn hT (fun g hg e => ?_), by rw [hb]; exact h.ne, fun b hb' => by rw [hb]; exact h.dis b hb', by rw [hb]; exact h.new, h0⟩, [r], hT, fun b hb' => by simpa using (h.dis b hb').1⟩
  · obtain rfl : b = r := by simpa using hb'
    exact ⟨h.new.1, .inl (by simp [rdL])⟩
  · rw [hb] at hg
    simp at e
    exact h.ne (by rw [hg, e])
/-- What was handed out. -/
def HdOut (E : Ev) (md : Option Bool) (s : Sx) (M : List Nat) (r : Nat) (ah : List UInt8) (feed ended : Bool) (n : Nat) (w : World) (e : Ending) (w' : World) : Prop :=
  ∃ cv av', e = .returned cv ∧ ByAt w' cv (ah.take n) ∧ (∀ b off k c, cv = .slice (some ⟨b, off, none⟩) k c → b ∈ rdL r av') ∧ PS E md w' s (rdL r av' ++ M) ∧ RdI E w' r av' (ah.drop n) n feed ended M ∧ Kept M w w'
set_option maxRecDepth 100000 in
set_option maxHeartbeats 2000000 in
theorem handOut_c (hp : PS E md w s (rdL r av ++ M)) (h : RdI E w r av ah last feed ended M) (n : Nat) (hn : n ≤ ah.length) :
    Calls Tryz.prog 222 #[ptr r, .int .i64 n] w (HdOut E md s M r ah feed ended n w) := by
  have c5 : w.cell? ⟨r, 5, none⟩ = some av := h_cell h.cs 5 rfl
  have c6 : w.cell? ⟨r, 6, none⟩ = some (.int .i64 last) := h_cell h.cs 6 rfl
  have z5 := h_fz h.cs 5
  have z6 := h_fz h.cs 6
  have HH := Lib.hid (And.intro hp h)
  have hset : ∀ av', RdAt ((w.setCell ⟨r, 5, none⟩ av').setCell ⟨r, 6, none⟩ (.int .i64 n)) r E.G.p 0 E.G.l1 E.G.l2 E.G.l3 av' n feed ended := fun av' => by
    have h1 := h_set h.cs 5 av'
    have h2 := h_set h1 6 (.int .i64 n)
    simpa using h2
  have hTr : ∀ av', Turn [r] w ((w.setCell ⟨r, 5, none⟩ av').setCell ⟨r, 6, none⟩ (.int .i64 n)) := fun av' => (Turn.set w r 5 _ (by simp)).trans (Turn.set _ r 6 _ (by simp))
  rcases h.ah with ⟨rfl, rfl⟩ | ⟨g, off, cap, rfl, h1, h2, h3⟩
  · obtain rfl : n = 0 := by simpa using hn
    clear h hp
    go_enter Tryz.func222, Tryz.ntmps222
    go_wp2_with fail
    go_ret
    obtain ⟨hp, h⟩ := HH.out
    obtain ⟨p1, p2, p3⟩ := h.moved hp (hTr (.slice none 0 0)) (hset (.slice none 0 0)) (ah' := []) (.inl ⟨rfl, rfl⟩) rfl (by omega)
    exact ⟨.slice none 0 0, .slice none 0 0, rfl, .inl ⟨rfl, rfl⟩, fun b off k c e => (by cases e), p1, p2, p3⟩
  · have hle := h2.le
    have q1 : ¬ (cap : Int) < (n : Int) := by omega
    have q2 : ¬ (ah.length : Int) < (n : Int) := by omega
    have HA := Lib.hid (And.intro h1 (And.intro h2 h3))
    clear h hp h1 h2 h3
    go_enter Tryz.func222, Tryz.ntmps222
    go_wp2_with fail
    all_goals
      go_ret
      obtain ⟨hp, hh⟩ := HH.out
      obtain ⟨h1, h2, h3⟩ := HA.out
      have hb : ∀ {u : World}, Turn [r] w u → ByAt u (.slice (some ⟨g, off, none⟩) n n) (ah.take n) := fun {u} hT => by
        have hl : (ah.take n).length = n := by rw [List.length_take]; omega
        refine .inr ⟨g, off, n, by rw [hl], by rw [hl]; unfold maxLen at h3; omega, Nat.lt_of_lt_of_le h1 hT.size, fun j hj => hT.cell (h2.olds j _ ?_) (fun e => hh.ne (by simp at e; rw [← e]; rfl))⟩
        rw [hl] at hj
        simp [u8s, hj, show j < ah.length by omega]
    · subst h
      have hA := ahead_tail h1 h2 h3 hn off ⟨fun _ => rfl, fun e => absurd rfl e⟩
      rw [Nat.sub_self] at hA
      obtain ⟨p1, p2, p3⟩ := hh.moved hp (hTr _) (hset _) hA rfl (by omega)
      exact ⟨_, _, rfl, hb (hTr _), fun b o k c e => by cases e; simp [rdL, Value.ownBlock], p1, p2, p3⟩
    · have hA := ahead_tail h1 h2 h3 hn (off + n) ⟨fun e => absurd e h, fun _ => rfl⟩
      obtain ⟨p1, p2, p3⟩ := hh.moved hp (hTr _) (hset _) hA rfl (by omega)
      exact ⟨_, _, rfl, hb (hTr _), fun b o k c e => by cases e; simp [rdL, Value.ownBlock], p1, p2, p3⟩

/-- What a chunk is. -/
def ChOut (E : Ev) (md : Option Bool) (s : Sx) (M : List Nat) (r : Nat) (last : Int) (feed : Bool) (buf : Nat) (w : World) (e : Ending) (w' : World) : Prop :=
  Waits md E M e w w' ∨ (md ≠ none ∧ ∃ bs cv av' s', e = .returned (.tuple #[cv, .int .i64 0]) ∧ RdTo E.G.faults (s.drops last) s' buf bs ∧ PS E (some false) w' (s'.holds bs.length) (rdL r av' ++ M) ∧ RdI E w' r av' [] bs.length feed bs.isEmpty M ∧ ByAt w' cv bs ∧ (∀ b off k c, cv = .slice (some ⟨b, off, none⟩) k c → b ∈ rdL r av') ∧ Kept M w w')
set_option maxRecDepth 100000 in
set_option maxHeartbeats 2000000 in
/-- A chunk, where nothing stands ahead. -/
theorem chunk_c (hp : PS E md w s (rdL r av ++ M)) (h : RdI E w r av [] last feed false M) (buf : Nat) (hbuf : E.G.l1 = buf) (hm : 1 ≤ buf) (hL : s.k.rest.length ≤ 1048576) (hu : s.k.used ≤ E.G.faults.length) (hst : s.steps + E.G.faults.length + 1 < 4611686018427387903) (hh : s.held ≤ 4611686018427387903) (hc : md ≠ some false → E.c0 = .read buf) :
    Calls Tryz.prog 188 #[ptr r] w (ChOut E md s M r last feed buf w) := by
  have hll := leaveLast_c hp h
  have hlook : ∀ w1, PS E md w1 (s.drops last) (rdL r av ++ M) → RdI E w1 r av [] 0 feed false M → Kept M w w1 → Calls Tryz.prog 221 #[ptr r, .int .i64 buf] w1 fun e w' => Waits md E M e w w' ∨ (md ≠ none ∧ e = .returned (.int .i64 0) ∧ ∃ bs av' s', RdTo E.G.faults (s.drops last) s' buf bs ∧ PS E (some false) w' (s'.holds bs.length) (rdL r av' ++ M) ∧ RdI E w' r av' bs 0 feed bs.isEmpty M ∧ Kept M w w') := fun w1 hp1 h1 hk1 => by
    have hn := hp.nn
    have hr := rread_c hp1 h1 buf hm (by show [].length + s.k.rest.length ≤ _; simpa using hL) hu hst (by show s.held - min last s.held ≤ _; have := h.last0; omega) hc
    obtain ⟨xa, ca, rfl, _, _⟩ := h1.ah.shape
    have c5 : w1.cell? ⟨r, 5, none⟩ = some (.slice xa 0 ca) := h_cell h1.cs 5 rfl
    have c8 : w1.cell? ⟨r, 8, none⟩ = some (.bool false) := h_cell h1.cs 8 rfl
    have HK := Lib.hid hk1
    clear hp h hll hp1 h1 hk1
    go_enter Tryz.func221, Tryz.ntmps221
    go_wp2_with (go_at_call 242; refine hr.mono ?_; rintro e w2 (⟨hmd, rfl, hW⟩ | ⟨hmd, rfl, hR⟩); (· exact ⟨rfl, .inl (Waits.after HK.out ⟨hmd, rfl, hW⟩)⟩))
    go_ret
    obtain ⟨bs, av', s', q1, q2, q3, q4⟩ := hR
    exact .inr ⟨hmd, rfl, bs, av', s', q1, q2, by simpa using q3, HK.out.trans q4⟩
  clear hp h
  go_enter Tryz.func188, Tryz.ntmps188
  go_wp2_with fail
  refine hll.mono ?_
  rintro e w1 ⟨⟨v, rfl⟩, hp1, h1, hk1⟩
  have c2 : w1.cell? ⟨r, 2, none⟩ = some (.int .i64 buf) := by rw [← hbuf]; exact h_cell h1.cs 2 rfl
  have hl := hlook w1 hp1 h1 hk1
  clear hll hlook hp1 h1 hk1
  go_wp2_with fail
  refine hl.mono ?_
  rintro e w2 (⟨hmd, rfl, hW⟩ | ⟨hmd, rfl, bs, av', s', q1, q2, q3, q4⟩)
  · exact ⟨rfl, .inl ⟨hmd, rfl, hW⟩⟩
  obtain ⟨xa, ca, rfl, _, _⟩ := q3.ah.shape
  have c5 : w2.cell? ⟨r, 5, none⟩ = some (.slice xa bs.length ca) := h_cell q3.cs 5 rfl
  have hho := handOut_c q2 q3 bs.length (Nat.le_refl _)
  have HQ := Lib.hid (And.intro hmd (And.intro q1 q4))
  clear hl q1 q2 q3 q4 hmd
  go_wp2_with (go_at_call 222; refine hho.mono ?_; rintro e w3 ⟨cv, av2, rfl, p1, p2, p3, p4, p5⟩)
  go_ret2
  obtain ⟨hmd, q1, q4⟩ := HQ.out
  rw [List.take_length] at p1
  rw [List.drop_length] at p4
  exact .inr ⟨hmd, bs, cv, av2, s', rfl, q1, p3, p4, p1, p2, q4.trans p5⟩
end
end Go.Proofs.YtfkoehfkiommpaaGreatDoor

namespace Go.Proofs.YtfkoehfkiommpaaGreatDoor
open Go.RowKit Go.Shelf Go.Maps

/-- A task's own cells. -/
abbrev TkAt (w : World) (tk p : Nat) (opts operands : Value) (status : Int) (heard : Bool) : Prop := w.heap[tk]? = some (.cells #[ptr p, opts, operands, .int .i64 status, .bool heard] 237)
/-- An input's own cells. -/
abbrev InAt (w : World) (i : Nat) (text : ByteArray) (tk : Nat) (rd : Value) (failed : Bool) : Prop := w.heap[i]? = some (.cells #[.string text, ptr tk, .int .i64 0, rd, .bool failed] 299)
/-- What telling comes to. -/
def TlOut (E : Ev) (md : Option Bool) (s : Sx) (M : List Nat) (isErr : Bool) (bs : List UInt8) (w : World) (v : Value) (e : Ending) (w' : World) : Prop :=
  Waits md E M e w w' ∨ (e = .returned v ∧ ∃ md' s', (bs = [] → md' = md) ∧ (bs ≠ [] → md' = some false) ∧ Wrote E.G.faults s s' isErr bs ∧ PS E md' w' s' M ∧ Kept M w w')
section
variable {E : Ev} {md : Option Bool} {w : World} {s : Sx} {M : List Nat}
set_option maxRecDepth 100000 in
set_option maxHeartbeats 2000000 in
theorem tell_c (h : PS E md w s M) (tk : Nat) (ht : w.cell? ⟨tk, 0, none⟩ = some (ptr E.G.p)) (v : Value) (bs : List UInt8) (hb : ByAt w v bs) (hv : ∀ b off n c, v = .slice (some ⟨b, off, none⟩) n c → b ∈ M) (hL : bs.length ≤ 1048576) (hu : s.k.used ≤ E.G.faults.length) (hO : s.k.out.length + bs.length ≤ 549755813888 ∧ s.k.err.length + bs.length ≤ 549755813888) (hst : s.steps + bs.length + E.G.faults.length < 4611686018427387903) (hc : bs ≠ [] → md ≠ some false → E.c0 = .write false bs) :
    Calls Tryz.prog 148 #[ptr tk, v] w (TlOut E md s M false bs w (.bool true)) := by
  have hw := swrite_c h false v bs hb hv hL hu hO hst hc
  obtain ⟨xa, ca, rfl⟩ := hb.shape
  have hwr : Calls Tryz.prog 190 #[ptr tk, .int .i64 1, .string ⟨#[115, 116, 97, 110, 100, 97, 114, 100, 32, 111, 117, 116, 112, 117, 116]⟩, .slice xa bs.length ca] w (TlOut E md s M false bs w (.bool true)) := by
    clear h hb hv
    go_enter Tryz.func190, Tryz.ntmps190
    go_wp2_with (go_at_call 223; refine hw.mono ?_; rintro e w2 (⟨hmd, rfl, hW⟩ | ⟨rfl, hR⟩); (· exact ⟨rfl, .inl ⟨hmd, rfl, hW⟩⟩))
    go_ret
    exact .inr ⟨rfl, hR⟩
  clear h hb hv hw
  go_enter Tryz.func148, Tryz.ntmps148
  go_wp2_with (go_at_call 190; refine hwr.mono ?_; rintro e w2 (⟨hmd, rfl, hW⟩ | ⟨rfl, hR⟩); (· exact ⟨rfl, .inl ⟨hmd, rfl, hW⟩⟩))
  go_ret
  exact .inr ⟨rfl, hR⟩
end
section
variable {E : Ev} {md : Option Bool} {w : World} {s : Sx} {M : List Nat} {r : Nat} {av : Value} {ah : List UInt8} {last : Int} {feed ended : Bool}
set_option maxRecDepth 100000 in
set_option maxHeartbeats 2000000 in
theorem leaveAhead_c (hp : PS E md w s (rdL r av ++ M)) (h : RdI E w r av ah last feed ended M) :
    Calls Tryz.prog 259 #[ptr r] w fun e w' => (∃ v, e = .returned v) ∧ PS E md w' (s.drops ah.length) (r :: M) ∧ RdI E w' r (.slice none 0 0) [] last feed ended M ∧ Kept M w w' := by
  obtain ⟨xa, ca, rfl, _, _⟩ := h.ah.shape
  have c0 : w.cell? ⟨r, 0, none⟩ = some (ptr E.G.p) := h_cell h.cs 0 rfl
  have c5 : w.cell? ⟨r, 5, none⟩ = some (.slice xa ah.length ca) := h_cell h.cs 5 rfl
  have hd := ((hp.drewN 1).drop ah.length (by omega))
  have HH := Lib.hid h
  clear h hp
  go_enter Tryz.func259, Tryz.ntmps259
  go_wp2_with fail
  go_region_with (go_at_call 241; refine hd.mono ?_; rintro e w1 ⟨rfl, hp1, hk0⟩; have hk1 := hk0.drewB; have h1 := HH.out.turn hk1; have d5 : w1.cell? ⟨r, 5, none⟩ = some (.slice xa ah.length ca) := h_cell h1.cs 5 rfl; have z5 := h_fz h1.cs 5)
  all_goals
    go_wp2
    go_end0
    have hT : Turn [r] w1 (w1.setCell ⟨r, 5, none⟩ (.slice none 0 0)) := Turn.set _ _ _ _ (by simp)
    refine ⟨⟨_, rfl⟩, hp1.own hT (fun b hb => ?_) (fun b hb => .inl ?_), ⟨by simpa using h_set h1.cs 5 (.slice none 0 0), .inl ⟨rfl, rfl⟩, fun e => by simp [Value.ownBlock] at e, fun b hb => ⟨(h1.dis b hb).1, fun e => by simp [Value.ownBlock] at e⟩, ⟨h1.new.1, fun g e => by simp [Value.ownBlock] at e⟩, h1.last0⟩, (hk1.less (fun x hx => List.mem_append_right _ hx)).trans ⟨[r], hT, fun b hb => by simpa using (h1.dis b hb).1⟩⟩
    · obtain rfl : b = r := by simpa using hb
      exact ⟨h1.new.1, .inl (by simp [rdL])⟩
    · rcases List.mem_cons.1 hb with rfl | hb
      · simp [rdL]
      · exact List.mem_append_right _ hb
set_option maxRecDepth 100000 in
set_option maxHeartbeats 2000000 in
theorem free_c (hp : PS E md w s (rdL r av ++ M)) (h : RdI E w r av ah last feed ended M) :
    Calls Tryz.prog 239 #[ptr r] w fun e w' => (∃ v, e = .returned v) ∧ PS E md w' ((s.drops last).drops ah.length) M ∧ Kept M w w' := by
  have hll := leaveLast_c hp h
  clear hp h
  go_enter Tryz.func239, Tryz.ntmps239
  go_wp2_with (first
    | (go_at_call 220; refine hll.mono ?_; rintro e w1 ⟨⟨v, rfl⟩, hp1, h1, hk1⟩; have hla := leaveAhead_c hp1 h1; have HK := Lib.hid hk1; clear hp1 h1 hk1)
    | (go_at_call 259; refine hla.mono ?_; rintro e w2 ⟨⟨v, rfl⟩, hp2, h2, hk2⟩))
  go_end0
  exact ⟨⟨_, rfl⟩, hp2.own (N := M) (Turn.refl [] w2) (by simp) (fun b hb => .inl (List.mem_cons_of_mem _ hb)), HK.out.trans hk2⟩
end
end Go.Proofs.YtfkoehfkiommpaaGreatDoor

namespace Go.Proofs.YtfkoehfkiommpaaGreatDoor
open Go.RowKit Go.Shelf Go.Maps

def s_dash : ByteArray := ⟨#[45]⟩
section
variable {E : Ev} {md : Option Bool} {w : World} {s : Sx} {M : List Nat}
theorem PS.prAt (h : PS E md w s M) : ∃ held peak, PrAt w E.G.p E.G.kn E.G.tb E.G.args E.G.env E.G.cwd E.G.l1 E.G.l2 E.G.l3 held peak E.G.box E.G.kin E.G.isChild (ptr E.G.m) := by
  obtain ⟨rv, v1, v2, hp, _⟩ := h.ex
  cases md with
  | none => exact ⟨0, 0, hp.1.pr⟩
  | some f => exact ⟨_, _, PB.pr hp⟩
theorem infoLm : (Tryz.prog.info? 28).map (·.size) = some 3 := by kernel_rfl
set_option maxRecDepth 100000 in
set_option maxHeartbeats 2000000 in
theorem lim_c (h : PS E md w s M) : Calls Tryz.prog 258 #[ptr E.G.p] w fun e w' => e = .returned (.agg #[.int .i64 E.G.l1, .int .i64 E.G.l2, .int .i64 E.G.l3]) ∧ Below w.heap.size w w' := by
  obtain ⟨held, peak, hp⟩ := h.prAt
  have c5 : w.cell? ⟨E.G.p, 5, none⟩ = some (.int .i64 E.G.l1) := h_cell hp 5 rfl
  have c6 : w.cell? ⟨E.G.p, 6, none⟩ = some (.int .i64 E.G.l2) := h_cell hp 6 rfl
  have c7 : w.cell? ⟨E.G.p, 7, none⟩ = some (.int .i64 E.G.l3) := h_cell hp 7 rfl
  have hpl := h_lt hp
  clear h hp
  go_enter Tryz.func258, Tryz.ntmps258
  go_wp2
  refine bodyPost_ret (results_cell_row rfl _ _ w.heap.size 28 #[.int .i64 E.G.l1, .int .i64 E.G.l2, .int .i64 E.G.l3] (0, 0) _ rfl (al_new _ _ rfl) Tryz.underlying28 rfl infoLm) rfl ?_
  exact ⟨rfl, (Below.refl _ w).alloc (Nat.le_refl _) _⟩
set_option maxRecDepth 100000 in
set_option maxHeartbeats 2000000 in
/-- A reader, new. -/
theorem rdnew_c (h : PS E md w s M) : Calls Tryz.prog 238 #[ptr E.G.p, .int .i64 0] w fun e w' => ∃ r, e = .returned (ptr r) ∧ w.heap.size ≤ r ∧ PS E md w' s (r :: M) ∧ RdI E w' r (.slice none 0 0) [] 0 false false M ∧ Kept M w w' := by
  have hl := lim_c h
  have HH := Lib.hid h
  clear h
  go_enter Tryz.func238, Tryz.ntmps238
  go_wp2_with (go_at_call 258; refine hl.mono ?_; rintro e w1 ⟨rfl, hB1⟩)
  go_ret
  have h := HH.out
  have hB : Below w.heap.size w (w1.alloc (.cells #[ptr E.G.p, .int .i64 0, .int .i64 E.G.l1, .int .i64 E.G.l2, .int .i64 E.G.l3, .slice none 0 0, .int .i64 0, .bool false, .bool false] 325)) := hB1.alloc hB1.size _
  have hs := hB1.size
  have hf := h.since.size
  obtain ⟨rv, v1, v2, _, m1, _⟩ := h.ex
  refine ⟨w1.heap.size, rfl, hs, h.own (Turn.below (S := []) hB) (by simp) (fun b hb => ?_), ⟨al_new _ _ rfl, .inl ⟨rfl, rfl⟩, by simp [Value.ownBlock], fun b hb => ⟨by have := (m1 b hb).1; omega, by simp [Value.ownBlock]⟩, ⟨by omega, fun g e => by simp [Value.ownBlock] at e⟩, by omega⟩, Kept.below hB⟩
  rcases List.mem_cons.1 hb with rfl | hb
  · exact .inr ⟨hs, by simp⟩
  · exact .inl hb
theorem openDash_c (p : Value) (w : World) : Calls Tryz.prog 237 #[p, .string s_dash] w fun e w' => e = .returned (.tuple #[.int .i64 0, .int .i64 0]) ∧ w' = w := by
  unfold s_dash
  go_enter Tryz.func237, Tryz.ntmps237
  go_wp2
  go_ret2
  exact ⟨rfl, rfl⟩
theorem close0_c (p : Value) (w : World) : Calls Tryz.prog 240 #[p, .int .i64 0] w fun e w' => (∃ v, e = .returned v) ∧ w' = w := by
  go_enter Tryz.func240, Tryz.ntmps240
  go_wp2
  go_end0
  exact ⟨⟨_, rfl⟩, rfl⟩
theorem heard_c {tk p : Nat} {opts operands : Value} {status : Int} (h : TkAt w tk p opts operands status false) : Calls Tryz.prog 217 #[ptr tk, .string s_dash] w fun e w' => e = .returned (.bool false) ∧ w' = w.setCell ⟨tk, 4, none⟩ (.bool true) := by
  have c4 : w.cell? ⟨tk, 4, none⟩ = some (.bool false) := h_cell h 4 rfl
  have z4 := h_fz h 4
  clear h
  unfold s_dash
  go_enter Tryz.func217, Tryz.ntmps217
  go_wp2
  go_ret
  exact ⟨rfl, rfl⟩
end
end Go.Proofs.YtfkoehfkiommpaaGreatDoor

namespace Go.Proofs.YtfkoehfkiommpaaGreatDoor.Op

abbrev Opts := List (UInt8 × ByteArray)

/-- Of a letter: 0 it is none, 1 alone, 2 with an argument. -/
def kindL (c : UInt8) : List UInt8 → Nat
  | [] => 0
  | x :: r => if x = c then (if r.head? = some 58 then 2 else 1) else kindL c r
def kindS (spec : ByteArray) (c : UInt8) : Nat := if c = 58 ∨ c = 45 then 0 else kindL c spec.data.toList

/-- A letter's argument is the next one. -/
def nextS (l : Opts) (c : UInt8) : List ByteArray → Option (Opts × List ByteArray)
  | [] => none
  | s :: rest => some (l ++ [(c, s)], rest)
/-- One argument's letters, and the arguments behind it. -/
def groupS (spec : ByteArray) : Opts → List UInt8 → List ByteArray → Option (Opts × List ByteArray)
  | l, [], rest => some (l, rest)
  | l, c :: r, rest =>
    if kindS spec c = 0 then none
    else if kindS spec c = 1 then groupS spec (l ++ [(c, ⟨#[]⟩)]) r rest
    else if r ≠ [] then some (l ++ [(c, ⟨r.toArray⟩)], rest)
    else nextS l c rest

theorem groupS_le (spec : ByteArray) : ∀ (g : List UInt8) (l : Opts) (rest : List ByteArray) (p : Opts × List ByteArray), groupS spec l g rest = some p → p.2.length ≤ rest.length
  | [], l, rest, p, h => by simp only [groupS, Option.some.injEq] at h; rw [← h]; exact Nat.le_refl _
  | c :: r, l, rest, p, h => by
    rw [groupS] at h
    split at h
    · cases h
    split at h
    · exact groupS_le spec r _ rest p h
    split at h
    · simp only [Option.some.injEq] at h; rw [← h]; exact Nat.le_refl _
    · cases rest with
      | nil => cases h
      | cons s rest => simp only [nextS, Option.some.injEq] at h; rw [← h]; simp

def dashes : ByteArray := ⟨#[45, 45]⟩

/-- So many arguments at most. -/
def parseN (spec : ByteArray) : Nat → Opts → List ByteArray → Option (Opts × List ByteArray)
  | _, l, [] => some (l, [])
  | 0, _, _ :: _ => none
  | n + 1, l, a :: rest =>
    if a = dashes then some (l, rest)
    else if a.size < 2 ∨ a.data.toList.head? ≠ some 45 then some (l, a :: rest)
    else (groupS spec l (a.data.toList.drop 1) rest).bind fun p => parseN spec n p.1 p.2
theorem parseN_same (spec : ByteArray) : ∀ (n m : Nat) (l : Opts) (args : List ByteArray), args.length ≤ n → args.length ≤ m → parseN spec n l args = parseN spec m l args
  | n, m, l, [], _, _ => by rw [parseN, parseN]
  | 0, _, _, _ :: _, h, _ => absurd h (by simp)
  | _ + 1, 0, _, _ :: _, _, h => absurd h (by simp)
  | n + 1, m + 1, l, a :: rest, h1, h2 => by
    rw [parseN, parseN]
    cases hg : groupS spec l (a.data.toList.drop 1) rest with
    | none => rfl
    | some p =>
      have h3 := groupS_le _ _ _ _ _ hg
      simp only [Option.bind_some]
      rw [parseN_same spec n m p.1 p.2 (by simp at h1; omega) (by simp at h2; omega)]

def parseS (spec : ByteArray) (l : Opts) (args : List ByteArray) : Option (Opts × List ByteArray) := parseN spec args.length l args

def tot (l : List ByteArray) : Nat := (l.map ByteArray.size).sum
theorem tot_cons (a : ByteArray) (l : List ByteArray) : tot (a :: l) = a.size + tot l := rfl

theorem parseS_nil (spec : ByteArray) (l : Opts) : parseS spec l [] = some (l, []) := by rw [parseS, parseN]
theorem parseS_dd (spec : ByteArray) (l : Opts) (a : ByteArray) (rest : List ByteArray) (h : a = dashes) : parseS spec l (a :: rest) = some (l, rest) := by rw [parseS, List.length_cons, parseN, if_pos h]
theorem parseS_stop (spec : ByteArray) (l : Opts) (a : ByteArray) (rest : List ByteArray) (h : a ≠ dashes) (h2 : a.size < 2 ∨ a.data.toList.head? ≠ some 45) : parseS spec l (a :: rest) = some (l, a :: rest) := by rw [parseS, List.length_cons, parseN, if_neg h, if_pos h2]
theorem parseS_go (spec : ByteArray) (l : Opts) (a : ByteArray) (rest : List ByteArray) (h : a ≠ dashes) (h2 : ¬ (a.size < 2 ∨ a.data.toList.head? ≠ some 45)) : parseS spec l (a :: rest) = (groupS spec l (a.data.toList.drop 1) rest).bind fun p => parseS spec p.1 p.2 := by
  rw [parseS, List.length_cons, parseN, if_neg h, if_neg h2]
  cases hg : groupS spec l (a.data.toList.drop 1) rest with
  | none => rfl
  | some p => exact parseN_same spec _ _ p.1 p.2 (groupS_le _ _ _ _ _ hg) (Nat.le_refl _)

/-- What is left to do within an argument. -/
def goS (spec : ByteArray) (l : Opts) (g : List UInt8) (rest : List ByteArray) : Option (Opts × List ByteArray) := (groupS spec l g rest).bind fun p => parseS spec p.1 p.2
theorem goS_nil (spec : ByteArray) (l : Opts) (rest : List ByteArray) : goS spec l [] rest = parseS spec l rest := rfl
theorem goS_0 {spec : ByteArray} {l : Opts} {c : UInt8} {r : List UInt8} {rest : List ByteArray} (h : kindS spec c = 0) : goS spec l (c :: r) rest = none := by rw [goS, groupS, if_pos h]; rfl
theorem goS_1 {spec : ByteArray} {l : Opts} {c : UInt8} {r : List UInt8} {rest : List ByteArray} (h : kindS spec c = 1) : goS spec l (c :: r) rest = goS spec (l ++ [(c, ⟨#[]⟩)]) r rest := by rw [goS, groupS, if_neg (by omega), if_pos h]; rfl
theorem goS_2 {spec : ByteArray} {l : Opts} {c : UInt8} {r : List UInt8} {rest : List ByteArray} (h0 : kindS spec c ≠ 0) (h : kindS spec c ≠ 1) (hr : r ≠ []) : goS spec l (c :: r) rest = parseS spec (l ++ [(c, ⟨r.toArray⟩)]) rest := by rw [goS, groupS, if_neg h0, if_neg h, if_pos hr]; rfl
theorem goS_3 {spec : ByteArray} {l : Opts} {c : UInt8} (h0 : kindS spec c ≠ 0) (h : kindS spec c ≠ 1) : goS spec l [c] [] = none := by rw [goS, groupS, if_neg h0, if_neg h, if_neg (by simp)]; rfl
theorem goS_4 {spec : ByteArray} {l : Opts} {c : UInt8} {s : ByteArray} {rest : List ByteArray} (h0 : kindS spec c ≠ 0) (h : kindS spec c ≠ 1) : goS spec l [c] (s :: rest) = parseS spec (l ++ [(c, s)]) rest := by rw [goS, groupS, if_neg h0, if_neg h, if_neg (by simp)]; rfl

theorem kindL_le (c : UInt8) : ∀ l, kindL c l ≤ 2
  | [] => by simp [kindL]
  | x :: r => by rw [kindL]; split; (split <;> omega); exact kindL_le c r
theorem kindS_le (spec : ByteArray) (c : UInt8) : kindS spec c ≤ 2 := by unfold kindS; split; (· omega); exact kindL_le _ _

/-- The first place of a letter. -/
theorem kindL_at (c : UInt8) : ∀ (l : List UInt8) (k : Nat), (∀ j, j < k → l[j]? ≠ some c) → kindL c l = kindL c (l.drop k)
  | l, 0, _ => by rw [List.drop_zero]
  | [], k + 1, _ => by simp
  | x :: r, k + 1, h => by
    have h0 : x ≠ c := fun e => h 0 (by omega) (by simp [e])
    rw [kindL, if_neg h0, List.drop_succ_cons]
    exact kindL_at c r k fun j hj => by simpa using h (j + 1) (by omega)

theorem kindL_mem {c : UInt8} : ∀ {l : List UInt8}, c ∈ l → kindL c l ≠ 0
  | x :: r, h => by
    rw [kindL]
    split
    · split <;> omega
    · rename_i hx
      rcases List.mem_cons.1 h with h | h
      · exact absurd h.symm hx
      · exact kindL_mem h
theorem kindL_not {c : UInt8} : ∀ {l : List UInt8}, c ∉ l → kindL c l = 0
  | [], _ => rfl
  | x :: r, h => by
    rw [kindL, if_neg (fun e => h (by simp [e]))]
    exact kindL_not (fun hm => h (by simp [hm]))
def hasS (l : Opts) (c : UInt8) : Bool := l.any fun p => p.1 == c
def lastS (l : Opts) (c : UInt8) : Option ByteArray := (l.reverse.find? fun p => p.1 == c).map (·.2)
end Go.Proofs.YtfkoehfkiommpaaGreatDoor.Op

namespace Go.Proofs.YtfkoehfkiommpaaGreatDoor.Op
open Go.RowKit

/-- The cells of an option. -/
def optCells (l : Opts) : List Value := l.flatMap fun p => [.int .u8 (p.1.toNat : Int), .string p.2]
theorem optCells_snoc (l : Opts) (p : UInt8 × ByteArray) : optCells (l ++ [p]) = optCells l ++ [.int .u8 (p.1.toNat : Int), .string p.2] := by simp [optCells]
def nthO (l : Opts) (j : Nat) : UInt8 × ByteArray := l[j]?.getD (0, ⟨#[]⟩)
theorem optCells_at (l : Opts) : ∀ (j : Nat), j < l.length → (optCells l)[j * 2]? = some (.int .u8 ((nthO l j).1.toNat : Int)) ∧ (optCells l)[j * 2 + 1]? = some (.string (nthO l j).2) := by
  induction l with
  | nil => intro j hj; simp at hj
  | cons p l ih =>
    intro j hj
    have e : optCells (p :: l) = [.int .u8 (p.1.toNat : Int), .string p.2] ++ optCells l := by simp [optCells]
    rw [e]
    cases j with
    | zero => simp [nthO]
    | succ j =>
      have := ih j (by simpa using hj)
      rw [List.getElem?_append_right (by simp; omega), List.getElem?_append_right (by simp; omega)]
      have e1 : (j + 1) * 2 - 2 = j * 2 := by omega
      have e2 : (j + 1) * 2 + 1 - 2 = j * 2 + 1 := by omega
      simp only [List.length_cons, List.length_nil, Nat.zero_add, Nat.reduceAdd, e1, e2]
      simpa [nthO] using this

def nth (l : List ByteArray) (j : Nat) : ByteArray := l[j]?.getD ⟨#[]⟩
theorem nth_drop (l : List ByteArray) (i j : Nat) : nth (l.drop i) j = nth l (i + j) := by simp [nth]
theorem drop_nth (l : List ByteArray) (i : Nat) (h : i < l.length) : l.drop i = nth l i :: l.drop (i + 1) := by
  rw [List.drop_eq_getElem_cons h]; simp [nth, h]

/-- A slice of strings. -/
def StrsAt (w : World) (v : Value) (ss : List ByteArray) : Prop :=
  (v = .slice none 0 0 ∧ ss = []) ∨ ∃ b off cap, v = .slice (some ⟨b, off, none⟩) ss.length cap ∧ (ss.length ≤ cap ∧ cap ≤ 9223372036854775807) ∧ b < w.heap.size ∧ ∀ j, j < ss.length → w.cell? ⟨b, off + j, none⟩ = some (.string (nth ss j))
theorem StrsAt.below {w w' : World} {v : Value} {ss : List ByteArray} (h : StrsAt w v ss) (hb : Below w.heap.size w w') : StrsAt w' v ss := by
  rcases h with h | ⟨b, off, cap, h1, h2, h3, h4⟩
  · exact .inl h
  · exact .inr ⟨b, off, cap, h1, h2, Nat.lt_of_lt_of_le h3 hb.size, fun j hj => (hb.cell (p := ⟨b, off + j, none⟩) h3).trans (h4 j hj)⟩
theorem StrsAt.drew {w : World} {v : Value} {ss : List ByteArray} (h : StrsAt w v ss) : StrsAt w.drew v ss := h

theorem own_ge2 {W : World} {base e s n : Nat} {v : Value} {xs : List Value} (h : W.ownsRow base e s v n xs) (j : Nat) (ej : v.ownBlock = some j) : base ≤ j := by
  rcases h.2 with ⟨rfl, _⟩ | ⟨g, cap, cur, rfl, hb, _⟩
  · cases ej
  · have : g = j := by simpa [Value.ownBlock] using ej
    omega
theorem own_slice2 {W : World} {base e s k : Nat} {v : Value} {xs : List Value} (h : W.ownsRow base e s v k xs) : ∃ a c, v = .slice a k c := by
  rcases h.2 with ⟨rfl, rfl⟩ | ⟨g, cap, cur, rfl, _⟩
  · exact ⟨none, 0, rfl⟩
  · exact ⟨_, cap, rfl⟩
theorem own_cell2 {W : World} {base e s n cap g : Nat} {xs : List Value} (h : W.ownsRow base e s (.slice (some ⟨g, 0, none⟩) n cap) n xs) (i : Nat) (hi : i < n * s) : W.cell? ⟨g, i, none⟩ = xs[i]? := by
  rcases h.2 with ⟨h, _⟩ | ⟨g', cap', cur, h1, _, hg, _, _, _, ht⟩
  · cases h
  · cases h1
    rw [← ht, List.getElem?_take, if_pos hi]
    simp [World.cell?, hg]
theorem own_some2 {W : World} {base e s n : Nat} {x : Option Addr} {cap : Nat} {xs : List Value} (h : W.ownsRow base e s (.slice x n cap) n xs) (hn : 0 < n) : ∃ g, x = some ⟨g, 0, none⟩ := by
  rcases h.2 with ⟨h, h0⟩ | ⟨g, _, _, h, _⟩
  · omega
  · cases h; exact ⟨g, rfl⟩

theorem info_opt : (Tryz.prog.info? 287).map (fun i => (i.zero, i.size, i.bytes)) = some (some (.agg #[.int .u8 0, .string ⟨#[]⟩]), 2, 24) := by kernel_rfl
theorem info_str : (Tryz.prog.info? 9).map (fun i => (i.zero, i.size, i.bytes)) = some (some (.string ⟨#[]⟩), 1, 16) := by kernel_rfl
theorem info_parts2 {P : Program} {t : Nat} {z : Option Value} {s b : Nat} (h : (P.info? t).map (fun i => (i.zero, i.size, i.bytes)) = some (z, s, b)) : ∃ i, P.info? t = some i ∧ i.zero = z ∧ i.size = s ∧ i.bytes = b := by
  cases hi : P.info? t with
  | none => rw [hi] at h; cases h
  | some i => rw [hi] at h; simp only [Option.map_some, Option.some.injEq, Prod.mk.injEq] at h; exact ⟨i, rfl, h.1, h.2.1, h.2.2⟩
end Go.Proofs.YtfkoehfkiommpaaGreatDoor.Op

namespace Go.Proofs.YtfkoehfkiommpaaGreatDoor.Op
open Go.RowKit

theorem u8_beq (a b : UInt8) : ((a.toNat : Int) == (b.toNat : Int)) = decide (a = b) := by
  rw [Bool.eq_iff_iff]; simp only [beq_iff_eq, decide_eq_true_eq, ← UInt8.toNat_inj]; omega
theorem u8_lit (a : UInt8) (n : Nat) (h : n < 256) : ((a.toNat : Int) == (n : Int)) = decide (a = UInt8.ofNat n) := by
  have := u8_beq a (UInt8.ofNat n)
  rw [show (UInt8.ofNat n).toNat = n from by simp; omega] at this
  exact this
theorem u8_no {a : UInt8} (n : Nat) (h : n < 256) (hne : a ≠ UInt8.ofNat n) : ((a.toNat : Int) == (n : Int)) = false := by rw [u8_lit a n h]; simpa using hne
theorem u8_yes {a : UInt8} (n : Nat) (h : n < 256) (he : a = UInt8.ofNat n) : ((a.toNat : Int) == (n : Int)) = true := by rw [u8_lit a n h]; simpa using he
theorem by_drop (s : ByteArray) (k : Nat) (h : k < s.size) : s.data.toList.drop k = s[k] :: s.data.toList.drop (k + 1) := by
  rw [List.drop_eq_getElem_cons (by exact h)]; rfl
theorem by_drop_end (s : ByteArray) (k : Nat) (h : s.size ≤ k) : s.data.toList.drop k = [] := List.drop_eq_nil_of_le h
theorem by_at (s : ByteArray) (k : Nat) (h : k < s.size) : s.data.toList[k]? = some s[k] := by
  rw [Array.getElem?_toList]; exact Array.getElem?_eq_getElem h

/-- Options in memory of their own. -/
abbrev OptsAt (w : World) (base : Nat) (v : Value) (l : Opts) : Prop := w.ownsRow base 287 2 v l.length (optCells l)

theorem opt_cells {w : World} {base g cap n : Nat} {l : Opts} (h : w.ownsRow base 287 2 (.slice (some ⟨g, 0, none⟩) n cap) n (optCells l)) (hn : n = l.length) (j : Nat) (hj : j < n) : w.cell? ⟨g, j * 2, none⟩ = some (.int .u8 ((nthO l j).1.toNat : Int)) ∧ w.cell? ⟨g, j * 2 + 1, none⟩ = some (.string (nthO l j).2) := by
  have := optCells_at l j (by omega)
  rw [own_cell2 h (j * 2) (by omega), own_cell2 h (j * 2 + 1) (by omega)]
  exact this

theorem lastS_step (l : Opts) (c : UInt8) (k : Nat) (h : k < l.length) : lastS (l.take (k + 1)) c = if (nthO l k).1 = c then some (nthO l k).2 else lastS (l.take k) c := by
  rw [List.take_succ_eq_append_getElem h]; unfold lastS
  rw [List.reverse_append, List.reverse_singleton, List.singleton_append, List.find?_cons]
  have : nthO l k = l[k] := by simp [nthO, h]
  rw [this]
  by_cases e : l[k].1 = c
  · rw [if_pos e]; simp [e]
  · rw [if_neg e]
    have : (l[k].1 == c) = false := by simpa using e
    rw [this]
/-- What Last is answered. -/
def lastV (r : Option ByteArray) : Value := match r with | some s => .tuple #[.string s, .bool true] | none => .tuple #[.string ⟨#[]⟩, .bool false]

theorem opts_snoc {w : World} {base : Nat} {v : Value} {l : Opts} {c : UInt8} {s : ByteArray} (h : w.ownsRow base 287 2 v (l.length + 1) (optCells l ++ [.int .u8 (c.toNat : Int), .string s])) : OptsAt w base v (l ++ [(c, s)]) := by
  unfold OptsAt; rw [optCells_snoc, List.length_append]; exact h
theorem by_tail (a : ByteArray) (k : Nat) : a.extract k a.size = ⟨(a.data.toList.drop k).toArray⟩ := by
  apply ByteArray.ext
  rw [ByteArray.data_extract, ← Array.toList_inj, Array.toList_extract]
  simp only [List.extract]
  exact List.take_of_length_le (by rw [List.length_drop]; exact Nat.le_refl _)
theorem cell_two_new (w : World) (x y : Value) (T : Nat) : ∀ j u, [x, y][j]? = some u → (w.alloc (.cells #[x, y] T)).cell? ((⟨w.heap.size, 0, none⟩ : Addr).add j) = some u := by
  intro j u h
  have hh : (w.alloc (.cells #[x, y] T)).heap[w.heap.size]? = some (.cells #[x, y] T) := by show (w.heap.push _)[w.heap.size]? = _; simp
  rw [Addr.add_lit]
  simp only [World.cell?, hh]
  match j with
  | 0 => simpa using h
  | 1 => simpa using h
  | j + 2 => simp at h
theorem strs_cut {w : World} {b off cap n k : Nat} {args : List ByteArray} (hn : args.length = n) (hk : k ≤ n) (hlc : n ≤ cap) (hcap : cap ≤ 9223372036854775807) (hb : b < w.heap.size) (hc : ∀ j, j < n → w.cell? ⟨b, off + j, none⟩ = some (.string (nth args j))) : StrsAt w (.slice (some ⟨b, off + k, none⟩) (n - k) (cap - k)) (args.drop k) := by
  refine .inr ⟨b, off + k, cap - k, by rw [List.length_drop, hn], by rw [List.length_drop, hn]; omega, hb, fun j hj => ?_⟩
  rw [List.length_drop, hn] at hj
  rw [Nat.add_assoc, hc (k + j) (by omega), nth_drop]
theorem strs_end {w : World} {b off n k : Nat} {args : List ByteArray} (hn : args.length = n) (hk : n ≤ k) (hb : b < w.heap.size) : StrsAt w (.slice (some ⟨b, off, none⟩) 0 0) (args.drop k) := by
  have : args.drop k = [] := List.drop_eq_nil_of_le (by omega)
  rw [this]
  exact .inr ⟨b, off, 0, rfl, by simp, hb, fun j hj => by simp at hj⟩
end Go.Proofs.YtfkoehfkiommpaaGreatDoor.Op

namespace Go.Proofs.YtfkoehfkiommpaaGreatDoor.Op
open Go.RowKit

end Go.Proofs.YtfkoehfkiommpaaGreatDoor.Op
