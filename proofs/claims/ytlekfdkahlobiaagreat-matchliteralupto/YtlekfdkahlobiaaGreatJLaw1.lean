/- What is asked of the program's expressions; the law's own call of it; the chapter's examples. -/
import Derived.Test.YtlekfdkahlobiaaGreatHBuild
import Derived.Test.YtlekfdkahlobiaaGreatMNfa
import Derived.Test.YtlekfdkahlobiaaGreatGLoc
import Derived.Lib.ConvBytes
namespace Go.Proofs.YtlekfdkahlobiaaGreat.Re
open Go.RowKit

/-- What Parse answers. -/
def PsOut (ReAt : World → Value → Nd → Prop) (w : World) (r : Except Nat Nd) (e : Ending) (w' : World) : Prop :=
  (match r with
  | .ok x => ∃ v, e = .returned (.tuple #[v, .int .i64 0]) ∧ isPtr w' v ∧ ReAt w' v x
  | .error n => e = .returned (.tuple #[.pointer none, .int .i64 (n : Int)])) ∧ Below w.heap.size w w'
section
variable {Amb : World → Prop} {ReAt : World → Value → Nd → Prop}
theorem isPtr.below {w w' : World} {v : Value} (h : isPtr w v) (hb : Below w.heap.size w w') : isPtr w' v := by
  obtain ⟨b, rfl, hl⟩ := h
  exact ⟨b, rfl, Nat.lt_of_lt_of_le hl hb.size⟩
theorem err_pos {ext fold : Bool} {s : List UInt8} {n : Nat} (h : parseS ext fold s = .error n) : n = 20 ∨ n = 12 := by
  unfold parseS at h
  split at h
  · cases h; exact .inl rfl
  · split at h
    · cases h; exact .inr rfl
    · cases h
end
end Go.Proofs.YtlekfdkahlobiaaGreat.Re

namespace Go.Proofs.YtlekfdkahlobiaaGreat.Re

/-- One or the other. -/
theorem find_alt {x y : Nd} {b : List UInt8} {a c d e f g : Int} {is was or : Bool} (h1 : FindS x b 0 a c is) (h2 : FindS y b 0 d e was) (h3 : FindS (ndK 5 [x, y]) b 0 f g or) : or = (is || was) ∧
    (is = true → was = true → a = d → f = a ∧ ((g = c ∧ e ≤ c) ∨ (g = e ∧ c ≤ e))) ∧ (is = true → (was = false ∨ a < d) → f = a ∧ g = c) ∧ (was = true → (is = false ∨ d < a) → f = d ∧ g = e) ∧ (is = false → was = false → f = 0 ∧ g = 0) := by
  have ha : ∀ i j, (ndK 5 [x, y]).st b i j ↔ x.st b i j ∨ y.st b i j := st_alt b x y
  rcases h1 with ⟨rfl, i, j, rfl, rfl, p1, p2, p3, p4, p5⟩ | ⟨rfl, rfl, rfl, p⟩
  · rcases h2 with ⟨rfl, i', j', rfl, rfl, q1, q2, q3, q4, q5⟩ | ⟨rfl, rfl, rfl, q⟩
    · -- both
      rcases Nat.lt_trichotomy i i' with hlt | heq | hgt
      · have hF : FindS (ndK 5 [x, y]) b 0 i j true := .inl ⟨rfl, i, j, rfl, rfl, p1, p2, (ha i j).2 (.inl p3), fun k hk => by
          rcases (ha i k).1 hk with h | h
          · exact p4 k h
          · exact absurd h (q5 i k (Nat.zero_le _) hlt), fun i2 j2 h0 h6 h7 => by
          rcases (ha i2 j2).1 h7 with h | h
          · exact p5 i2 j2 h0 h6 h
          · exact q5 i2 j2 h0 (by omega) h⟩
        obtain ⟨rfl, rfl, rfl⟩ := find_same h3 hF
        exact ⟨rfl, fun _ _ e => by omega, fun _ _ => ⟨rfl, rfl⟩, (fun _ h => by rcases h with h | h <;> first | (cases h; done) | omega), fun h => by cases h⟩
      · subst heq
        have hF : FindS (ndK 5 [x, y]) b 0 i (max j j' : Nat) true := .inl ⟨rfl, i, max j j', rfl, rfl, p1, p2, (ha i _).2 (by
          rcases Nat.le_total j j' with h | h
          · rw [Nat.max_eq_right h]; exact .inr q3
          · rw [Nat.max_eq_left h]; exact .inl p3), fun k hk => by
          rcases (ha i k).1 hk with h | h
          · have := p4 k h; omega
          · have := q4 k h; omega, fun i2 j2 h0 h6 h7 => by
          rcases (ha i2 j2).1 h7 with h | h
          · exact p5 i2 j2 h0 h6 h
          · exact q5 i2 j2 h0 h6 h⟩
        obtain ⟨rfl, rfl, rfl⟩ := find_same h3 hF
        refine ⟨rfl, fun _ _ _ => ⟨rfl, ?_⟩, (fun _ h => by rcases h with h | h <;> first | (cases h; done) | omega), (fun _ h => by rcases h with h | h <;> first | (cases h; done) | omega), fun h => by cases h⟩
        omega
      · have hF : FindS (ndK 5 [x, y]) b 0 i' j' true := .inl ⟨rfl, i', j', rfl, rfl, q1, q2, (ha i' j').2 (.inr q3), fun k hk => by
          rcases (ha i' k).1 hk with h | h
          · exact absurd h (p5 i' k (Nat.zero_le _) hgt)
          · exact q4 k h, fun i2 j2 h0 h6 h7 => by
          rcases (ha i2 j2).1 h7 with h | h
          · exact p5 i2 j2 h0 (by omega) h
          · exact q5 i2 j2 h0 h6 h⟩
        obtain ⟨rfl, rfl, rfl⟩ := find_same h3 hF
        exact ⟨rfl, fun _ _ e => by omega, (fun _ h => by rcases h with h | h <;> first | (cases h; done) | omega), fun _ _ => ⟨rfl, rfl⟩, fun h => by cases h⟩
    · have hF : FindS (ndK 5 [x, y]) b 0 i j true := .inl ⟨rfl, i, j, rfl, rfl, p1, p2, (ha i j).2 (.inl p3), fun k hk => by
        rcases (ha i k).1 hk with h | h
        · exact p4 k h
        · exact absurd h (q i k (Nat.zero_le _) p2), fun i2 j2 h0 h6 h7 => by
        rcases (ha i2 j2).1 h7 with h | h
        · exact p5 i2 j2 h0 h6 h
        · exact q i2 j2 h0 (by omega) h⟩
      obtain ⟨rfl, rfl, rfl⟩ := find_same h3 hF
      exact ⟨rfl, (fun _ h => by cases h), (fun _ _ => ⟨rfl, rfl⟩), (fun h => by cases h), (fun h => by cases h)⟩
  · rcases h2 with ⟨rfl, i', j', rfl, rfl, q1, q2, q3, q4, q5⟩ | ⟨rfl, rfl, rfl, q⟩
    · have hF : FindS (ndK 5 [x, y]) b 0 i' j' true := .inl ⟨rfl, i', j', rfl, rfl, q1, q2, (ha i' j').2 (.inr q3), fun k hk => by
        rcases (ha i' k).1 hk with h | h
        · exact absurd h (p i' k (Nat.zero_le _) q2)
        · exact q4 k h, fun i2 j2 h0 h6 h7 => by
        rcases (ha i2 j2).1 h7 with h | h
        · exact p i2 j2 h0 (by omega) h
        · exact q5 i2 j2 h0 h6 h⟩
      obtain ⟨rfl, rfl, rfl⟩ := find_same h3 hF
      exact ⟨rfl, (fun h => by cases h), (fun h => by cases h), fun _ _ => ⟨rfl, rfl⟩, fun _ h => by cases h⟩
    · have hF : FindS (ndK 5 [x, y]) b 0 0 0 false := .inr ⟨rfl, rfl, rfl, fun i j h0 h1 h2 => by
        rcases (ha i j).1 h2 with h | h
        · exact p i j h0 h1 h
        · exact q i j h0 h1 h⟩
      obtain ⟨rfl, rfl, rfl⟩ := find_same h3 hF
      exact ⟨rfl, (fun h => by cases h), (fun h => by cases h), (fun h => by cases h), fun _ _ => ⟨rfl, rfl⟩⟩
/-- A text stands where it first stands. -/
theorem find_lit_yes {b s : List UInt8} {f : Int} {at' : Nat} (h1 : fromN f ≤ at') (h2 : at' + s.length ≤ b.length) (h3 : (b.drop at').take s.length = s) (h4 : ∀ i, fromN f ≤ i → i < at' → (b.drop i).take s.length ≠ s) : FindS (literalS false s) b f at' ((at' + s.length : Nat) : Int) true :=
  .inl ⟨rfl, at', at' + s.length, rfl, rfl, h1, by omega, (st_lit b s at' _ (by omega)).2 ⟨h3, rfl⟩, fun j' h => by have := ((st_lit b s at' j' (by omega)).1 h).2; omega, fun i' j' hi hl hs => h4 i' hi hl ((st_lit b s i' j' (by omega)).1 hs).1⟩
theorem find_lit_no {b s : List UInt8} {f : Int} (h : ∀ i, fromN f ≤ i → i + s.length ≤ b.length → (b.drop i).take s.length ≠ s) : FindS (literalS false s) b f 0 0 false :=
  .inr ⟨rfl, rfl, rfl, fun i j h1 h2 hs => by
    have h3 := ((st_lit b s i j h2).1 hs).1
    refine h i h1 ?_ h3
    have := congrArg List.length h3
    simp at this
    omega⟩
end Go.Proofs.YtlekfdkahlobiaaGreat.Re

namespace Go.Proofs.YtlekfdkahlobiaaGreat.Re
open Go.RowKit

/-- Bytes in memory. -/
def ByAt (w : World) (v : Value) (d : List UInt8) : Prop :=
  (v = .slice none 0 0 ∧ d = []) ∨ ∃ b off cap, v = .slice (some ⟨b, off, none⟩) d.length cap ∧ (d.length ≤ cap ∧ cap ≤ 9223372036854775807) ∧ b < w.heap.size ∧ ∀ j, j < d.length → w.cell? ⟨b, off + j, none⟩ = some (.int .u8 ((d[j]?.getD 0).toNat : Int))
theorem ByAt.below {w w' : World} {v : Value} {d : List UInt8} (h : ByAt w v d) (hb : Below w.heap.size w w') : ByAt w' v d := by
  rcases h with h | ⟨b, off, cap, h1, h2, h3, h4⟩
  · exact .inl h
  · exact .inr ⟨b, off, cap, h1, h2, Nat.lt_of_lt_of_le h3 hb.size, fun j hj => (hb.cell (p := ⟨b, off + j, none⟩) h3).trans (h4 j hj)⟩
theorem ByAt.shape {w : World} {v : Value} {d : List UInt8} (h : ByAt w v d) : ∃ a c, v = .slice a d.length c := by
  rcases h with ⟨rfl, rfl⟩ | ⟨b, off, cap, rfl, _⟩
  · exact ⟨none, 0, rfl⟩
  · exact ⟨_, cap, rfl⟩
theorem conv_sb (s : ByteArray) (w : World) : (convert 9 22 (.string s)).run Tryz.prog w = .ok (.slice (some ⟨w.heap.size, 0, none⟩) s.size (grownCap w s.size 0 5)) (Lib.bytesWorld w 5 s) :=
  Lib.run_convert_string_bytes w 9 22 5 s Tryz.underlying9 Tryz.underlying22 Tryz.underlying5
theorem by_conv (s : ByteArray) (w : World) (hs : s.size ≤ 4194304) : ByAt (Lib.bytesWorld w 5 s) (.slice (some ⟨w.heap.size, 0, none⟩) s.size (grownCap w s.size 0 5)) s.data.toList := by
  refine .inr ⟨w.heap.size, 0, _, rfl, ⟨grownCap_ge w s.size 0 _, ?_⟩, by rw [Lib.bytesWorld_size]; omega, fun j hj => ?_⟩
  · have := grownCap_le_maxLen w s.size 0 5 (by unfold maxLen; omega)
    unfold maxLen at this; exact this
  · rw [Nat.zero_add, Lib.bytesWorld_cell w 5 s j hj]; rfl
theorem below_bw (B : Nat) (w : World) (e : TypeId) (s : ByteArray) (h : B ≤ w.heap.size) : Below B w (Lib.bytesWorld w e s) :=
  ⟨rfl, rfl, rfl, by rw [Lib.bytesWorld_size]; omega, fun k hk => Lib.bytesWorld_at_old w e s k (by omega)⟩
/-- What Find answers. -/
def FdOut (x : Nd) (b : List UInt8) (f : Int) (w : World) (e : Ending) (w' : World) : Prop :=
  ∃ a z is, e = .returned (.tuple #[.int .i64 a, .int .i64 z, .bool is]) ∧ FindS x b f a z is ∧ Below w.heap.size w w'
/-- What is asked of the program: Amb: what is known of package variables; ReAt, PgAt: how an expression lies, and one that is ready. -/
structure SaysM (Amb : World → Prop) (ReAt PgAt : World → Value → Nd → Prop) : Prop where
  keep : ∀ w w', Amb w → Below w.heap.size w w' → Amb w'
  keepR : ∀ w w' v x, ReAt w v x → Below w.heap.size w w' → ReAt w' v x
  keepP : ∀ w w' v x, PgAt w v x → Below w.heap.size w w' → PgAt w' v x
  parse : ∀ (s : ByteArray) (ext fold : Bool) (w : World), Amb w → s.size ≤ 1048640 → Calls Tryz.prog 20 #[.string s, .bool ext, .bool fold] w (PsOut ReAt w (parseS ext fold s.data.toList))
  new : ∀ (v : Value) (x : Nd) (w : World), Amb w → isPtr w v → ReAt w v x → x.wf = true → x.size ≤ 10000 → Calls Tryz.prog 7 #[v] w fun e w' => ∃ p, e = .returned p ∧ isPtr w' p ∧ PgAt w' p x ∧ Below w.heap.size w w'
  find : ∀ (p : Value) (x : Nd) (v : Value) (b : List UInt8) (f : Int) (w : World), Amb w → isPtr w p → PgAt w p x → x.wf = true → x.size ≤ 10000 → ByAt w v b → b.length ≤ 1048576 → IntKind.i64.min ≤ f ∧ f ≤ IntKind.i64.max → Calls Tryz.prog 8 #[p, v, .int .i64 f] w (FdOut x b f w)
section
variable {Amb : World → Prop} {ReAt PgAt : World → Value → Nd → Prop}
/-- What the law's prog answers. -/
def PgOut (PgAt : World → Value → Nd → Prop) (r : Except Nat Nd) (w : World) (e : Ending) (w' : World) : Prop :=
  (match r with
  | .ok x => ∃ p, e = .returned p ∧ isPtr w' p ∧ PgAt w' p x
  | .error _ => e = .returned (.pointer none)) ∧ Below w.heap.size w w'
set_option maxHeartbeats 1000000 in
set_option maxRecDepth 100000 in
theorem prog_c (S : SaysM Amb ReAt PgAt) (s : ByteArray) (ext fold : Bool) (w : World) (hA : Amb w) (hs : s.size ≤ 1048640) :
    Calls Tryz.prog 10 #[.string s, .bool ext, .bool fold] w (PgOut PgAt (parseS ext fold s.data.toList) w) := by
  have hp := S.parse s ext fold w hA hs
  have HS := Lib.hid S
  clear S
  cases hR : parseS ext fold s.data.toList with
  | ok x =>
    rw [hR] at hp
    obtain ⟨hw, hz, _⟩ := parse_wf hR
    have HX := Lib.hid (And.intro hw hz)
    clear hR hw hz
    go_enter Tryz.func10, Tryz.ntmps10
    go_wp2_with fail
    refine hp.mono ?_
    rintro e w1 ⟨⟨v, rfl, hi, hr⟩, hB⟩
    have ht := HS.out.new v x w1 (HS.out.keep _ _ hA hB) hi hr HX.out.1 HX.out.2
    obtain ⟨b, rfl, _⟩ := hi
    have HB := Lib.hid hB
    clear hp hr hB
    go_wp2_with fail
    refine ht.mono ?_
    rintro e w2 ⟨p, rfl, hi2, hp2, hB2⟩
    have HF : Hid (PgOut PgAt (.ok x) w (.returned p) w2) := ⟨⟨p, rfl, hi2, hp2⟩, HB.out.trans (hB2.mono HB.out.size)⟩
    clear ht hi2 hp2 hB2 HB
    go_wp2_with fail
    go_ret
    exact HF.out
  | error n =>
    rw [hR] at hp
    have hn : ((n : Int) != 0) = true := by rcases err_pos hR with rfl | rfl <;> rfl
    clear hR
    go_enter Tryz.func10, Tryz.ntmps10
    go_wp2_with fail
    refine hp.mono ?_
    rintro e w1 ⟨rfl, hB⟩
    have HB := Lib.hid hB
    clear hp hB
    go_wp2_with fail
    go_ret
    exact ⟨rfl, HB.out⟩
set_option maxHeartbeats 1000000 in
set_option maxRecDepth 100000 in
theorem finds_c (S : SaysM Amb ReAt PgAt) (p : Value) (x : Nd) (b : ByteArray) (f a z : Int) (is : Bool) (w : World) (hA : Amb w) (hi : isPtr w p) (hP : PgAt w p x) (hw : x.wf = true) (hz : x.size ≤ 10000) (hb : b.size ≤ 1048576) (hf : IntKind.i64.min ≤ f ∧ f ≤ IntKind.i64.max) (hF : FindS x b.data.toList f a z is) :
    Calls Tryz.prog 11 #[p, .string b, .int .i64 f, .int .i64 a, .int .i64 z, .bool is] w fun e w' => e = .returned (.bool true) ∧ Below w.heap.size w w' := by
  have e1 := below_bw w.heap.size w 5 b (Nat.le_refl _)
  have hfd := S.find p x _ b.data.toList f (Lib.bytesWorld w 5 b) (S.keep _ _ hA e1) (hi.below e1) (S.keepP _ _ _ _ hP e1) hw hz (by_conv b w (by omega)) (by have e : b.data.toList.length = b.size := rfl; omega) hf
  have hcv := conv_sb b w
  have HF := Lib.hid (And.intro hF e1)
  obtain ⟨pb, rfl, hpl⟩ := hi
  clear S hP hF e1
  go_enter Tryz.func11, Tryz.ntmps11
  go_wp2_with fail
  refine hfd.mono ?_
  rintro e w2 ⟨a', z', is', rfl, hF', hB2⟩
  obtain ⟨rfl, rfl, rfl⟩ := find_same HF.out.1 hF'
  have HB : Hid (Below w.heap.size w w2) := HF.out.2.trans (hB2.mono HF.out.2.size)
  clear hfd hF' hB2 HF hcv
  go_wp2_with fail
  go_ret
  exact ⟨by simp, HB.out⟩
-- the chapter's examples
def nA : Nd := ndK 5 [oneN false 97, ndK 4 [oneN false 97, oneN false 98]]
def nB : Nd := repN 0 (-1) (oneN false 98)
def nC : Nd := ndK 4 [beginN, oneN false 97]
theorem exA : parseS true false [97, 124, 97, 98] = .ok nA := by kernel_rfl
theorem exB : parseS false false [98, 42] = .ok nB := by kernel_rfl
theorem exC : parseS false false [94, 97] = .ok nC := by kernel_rfl
theorem st_cat2 (b : List UInt8) (x y : Nd) (i j : Nat) : (ndK 4 [x, y]).st b i j ↔ ∃ k, x.st b i k ∧ y.st b k j := by
  unfold ndK
  rw [(st_kinds b _ 0 0 _).2.2.2.2.1, sts_map]
  simp [catR]
theorem st_repB (b : List UInt8) (i j : Nat) : nB.st b i j ↔ ∃ c : Nat, iterR ((oneN false 98).st b) c i j := by
  unfold nB repN
  rw [(st_kinds b _ _ _ _).2.2.2.2.2.2, sts_map]
  constructor
  · rintro ⟨c, _, _, h⟩; exact ⟨c, h⟩
  · rintro ⟨c, h⟩; exact ⟨c, by omega, .inl (by omega), h⟩
theorem fdA : FindS nA [120, 97, 98] 0 1 3 true := by
  refine .inl ⟨rfl, 1, 3, rfl, rfl, by decide, by decide, ?_, fun j' h => (st_fwd _ nA 1 j' h (by decide)).2, fun i' j' _ hl h => ?_⟩
  · exact (st_alt _ _ _ _ _).2 (.inr ((st_cat2 _ _ _ _ _).2 ⟨2, (st_one _ _ _ _).2 ⟨rfl, rfl⟩, (st_one _ _ _ _).2 ⟨rfl, rfl⟩⟩))
  · obtain rfl : i' = 0 := by omega
    rcases (st_alt _ _ _ _ _).1 h with h | h
    · have := ((st_one _ _ _ _).1 h).1; simp at this
    · obtain ⟨k, h1, _⟩ := (st_cat2 _ _ _ _ _).1 h
      have := ((st_one _ _ _ _).1 h1).1; simp at this
theorem fdB : FindS nB [97, 98, 98] 0 0 0 true := by
  refine .inl ⟨rfl, 0, 0, rfl, rfl, by decide, by decide, (st_repB _ _ _).2 ⟨0, rfl⟩, fun j' h => ?_, fun i' j' _ hl h => by omega⟩
  obtain ⟨c, hc⟩ := (st_repB _ _ _).1 h
  cases c with
  | zero => have : 0 = j' := hc; omega
  | succ c =>
    obtain ⟨k, h1, _⟩ := hc
    have := ((st_one _ _ _ _).1 h1).1; simp at this
theorem fdB2 : FindS nB [97, 98, 98] 1 1 3 true := by
  refine .inl ⟨rfl, 1, 3, rfl, rfl, by decide, by decide, (st_repB _ _ _).2 ⟨2, 2, (st_one _ _ _ _).2 ⟨rfl, rfl⟩, 3, (st_one _ _ _ _).2 ⟨rfl, rfl⟩, rfl⟩, fun j' h => (st_fwd _ nB 1 j' h (by decide)).2, fun i' j' h1 hl h => ?_⟩
  have : 1 ≤ i' := h1
  omega
theorem fdC : FindS nC [97, 97] 1 0 0 false := by
  refine .inr ⟨rfl, rfl, rfl, fun i j h1 _ h => ?_⟩
  have h2 : 1 ≤ i := h1
  obtain ⟨k, h3, _⟩ := (st_cat2 _ _ _ _ _).1 h
  have h4 : i = 0 ∧ k = 0 := by
    have e := (st_kinds [97, 97] noB 0 0 []).2.2.1
    unfold beginN ndK at h3
    rw [e] at h3
    exact h3
  omega
set_option maxHeartbeats 2000000 in
set_option maxRecDepth 100000 in
theorem awakeM_c (S : SaysM Amb ReAt PgAt) (w : World) (hA : Amb w) : Calls Tryz.prog 5 #[] w fun e w' => e = .returned (.bool true) ∧ Below w.heap.size w w' := by
  have HS := Lib.hid S
  have hm : IntKind.i64.min ≤ 0 ∧ (0 : Int) ≤ IntKind.i64.max := by decide
  have hm1 : IntKind.i64.min ≤ 1 ∧ (1 : Int) ≤ IntKind.i64.max := by decide
  have two : ∀ (s : ByteArray) (ext : Bool) (x : Nd) (b : ByteArray) (f a z : Int) (is : Bool), parseS ext false s.data.toList = .ok x → s.size ≤ 16 → b.size ≤ 16 → (IntKind.i64.min ≤ f ∧ f ≤ IntKind.i64.max) → FindS x b.data.toList f a z is → ∀ u, Amb u →
      Calls Tryz.prog 10 #[.string s, .bool ext, .bool false] u fun e u' => ∃ pb, e = .returned (ptr pb) ∧ Below u.heap.size u u' ∧ Calls Tryz.prog 11 #[ptr pb, .string b, .int .i64 f, .int .i64 a, .int .i64 z, .bool is] u' fun e w' => e = .returned (.bool true) ∧ Below u'.heap.size u' w' := by
    intro s ext x b f a z is hps hs hb hf hF u hAu
    have hp := prog_c HS.out s ext false u hAu (by omega)
    rw [hps] at hp
    obtain ⟨hw, hz, _⟩ := parse_wf hps
    refine hp.mono ?_
    rintro e u' ⟨⟨p, rfl, hi, hP⟩, hB⟩
    have hfc := finds_c HS.out p x b f a z is u' (HS.out.keep _ _ hAu hB) hi hP hw hz (by omega) hf hF
    obtain ⟨pb, rfl, _⟩ := hi
    exact ⟨pb, rfl, hB, hfc⟩
  have tA := two ⟨#[97, 124, 97, 98]⟩ true nA ⟨#[120, 97, 98]⟩ 0 1 3 true exA (by decide) (by decide) hm fdA
  have tB := two ⟨#[98, 42]⟩ false nB ⟨#[97, 98, 98]⟩ 0 0 0 true exB (by decide) (by decide) hm fdB
  have tB2 := two ⟨#[98, 42]⟩ false nB ⟨#[97, 98, 98]⟩ 1 1 3 true exB (by decide) (by decide) hm1 fdB2
  have tC := two ⟨#[94, 97]⟩ false nC ⟨#[97, 97]⟩ 1 0 0 false exC (by decide) (by decide) hm1 fdC
  have HT := Lib.hid (And.intro tA (And.intro tB (And.intro tB2 tC)))
  clear two tA tB tB2 tC hm hm1 S
  go_enter Tryz.func5, Tryz.ntmps5
  go_wp2_with fail
  refine (HT.out.1 _ hA).mono ?_
  rintro e w1 ⟨p1, rfl, hB1, t1⟩
  go_wp2_with fail
  refine t1.mono ?_
  rintro e w2 ⟨rfl, hB2⟩
  have H2 : Hid (Amb w2 ∧ Below w.heap.size w w2) := ⟨HS.out.keep _ _ (HS.out.keep _ _ hA hB1) hB2, hB1.trans (hB2.mono hB1.size)⟩
  clear t1 hB1 hB2
  go_wp2_with fail
  refine (HT.out.2.1 _ H2.out.1).mono ?_
  rintro e w3 ⟨p3, rfl, hB3, t3⟩
  go_wp2_with fail
  refine t3.mono ?_
  rintro e w4 ⟨rfl, hB4⟩
  have H4 : Hid (Amb w4 ∧ Below w.heap.size w w4) := ⟨HS.out.keep _ _ (HS.out.keep _ _ H2.out.1 hB3) hB4, H2.out.2.trans ((hB3.trans (hB4.mono hB3.size)).mono H2.out.2.size)⟩
  clear t3 hB3 hB4 H2
  go_wp2_with fail
  refine (HT.out.2.2.1 _ H4.out.1).mono ?_
  rintro e w5 ⟨p5, rfl, hB5, t5⟩
  go_wp2_with fail
  refine t5.mono ?_
  rintro e w6 ⟨rfl, hB6⟩
  have H6 : Hid (Amb w6 ∧ Below w.heap.size w w6) := ⟨HS.out.keep _ _ (HS.out.keep _ _ H4.out.1 hB5) hB6, H4.out.2.trans ((hB5.trans (hB6.mono hB5.size)).mono H4.out.2.size)⟩
  clear t5 hB5 hB6 H4
  go_wp2_with fail
  refine (HT.out.2.2.2 _ H6.out.1).mono ?_
  rintro e w7 ⟨p7, rfl, hB7, t7⟩
  go_wp2_with fail
  refine t7.mono ?_
  rintro e w8 ⟨rfl, hB8⟩
  have H8 : Hid (Below w.heap.size w w8) := H6.out.2.trans ((hB7.trans (hB8.mono hB7.size)).mono H6.out.2.size)
  clear t7 hB7 hB8 H6
  go_wp2_with fail
  go_ret
  exact ⟨rfl, H8.out⟩
end
end Go.Proofs.YtlekfdkahlobiaaGreat.Re
