/- printf: how its parts and its printer lie. -/
import Derived.Test.YteimilnecahifaaGreatDoorKBefall
import Derived.Test.YteimilnecahifaaGreatDoorNJob
import Derived.Test.YteimilnecahifaaGreatDoorShelf6
import Derived.Test.YteimilnecahifaaGreatDoorYParse
import Derived.Lib.AppendStr
import Derived.Laws.AppendOwn
import Derived.Lib.ConvBytes
import Derived.WalkSpells
import Derived.Lib.Repeat
import Derived.Deep.RegionWith
import Derived.Deep.RegionHeld3
import Derived.Test.YteimilnecahifaaGreatDoorNDir
namespace Go.Proofs.YteimilnecahifaaGreatDoor.Nm
open Go.Proofs.YteimilnecahifaaGreatDoor Go.Proofs.YteimilnecahifaaGreatDoor.Op
open Go.RowKit

/-- A conversion's cells. -/
def cvA (x : Pc) (p : Int) : Array Value := #[.bool x.minus, .bool x.plus, .bool x.blank, .bool x.zero, .bool x.sharp, .int .i64 (x.width : Int), .int .i64 p]
def cvV (x : Pc) (p : Int) : Value := .agg (cvA x p)
/-- Texts from a block of one's own. -/
def ArgsIn (w : World) (g : Nat) (v : Value) (ss : List ByteArray) : Prop := StrsAt w v ss ∧ ∀ b off n c, v = .slice (some ⟨b, off, none⟩) n c → b = g
theorem ArgsIn.turn {w w' : World} {S : List Nat} {g : Nat} {v : Value} {ss : List ByteArray} (h : ArgsIn w g v ss) (hT : Turn S w w') (hg : g ∉ S) : ArgsIn w' g v ss := by
  refine ⟨?_, h.2⟩
  rcases h.1 with ⟨rfl, rfl⟩ | ⟨b, off, cap, rfl, hcap, hb, hc⟩
  · exact .inl ⟨rfl, rfl⟩
  · have e := h.2 _ _ _ _ rfl
    subst e
    exact .inr ⟨b, off, cap, rfl, hcap, Nat.lt_of_lt_of_le hb hT.size, fun j hj => hT.cell (hc j hj) hg⟩
theorem slice_from_g {w : World} {g : Nat} {x : Option Addr} {n cv k : Nat} {ss : List ByteArray} (hn : n = ss.length) (h : ArgsIn w g (.slice x n cv) ss) (hk : k ≤ n) :
    ∃ y c, (∀ u : World, (Instr.sliceAt 32 (.slice x n cv) (some (.int .i64 k)) none none).run Tryz.prog u = .ok (.slice y (n - k) c) u) ∧ ArgsIn w g (.slice y (n - k) c) (ss.drop k) := by
  have u22 := Tryz.underlying32
  have z9 := Tryz.sizeOf9
  obtain ⟨h, hg⟩ := h
  rcases h with ⟨h, rfl⟩ | ⟨b, off, cap, h, ⟨h1, h2⟩, h3, h4⟩
  · cases h
    obtain rfl : k = 0 := by omega
    refine ⟨none, 0, fun u => ?_, .inl ⟨by simp, by simp⟩, fun _ _ _ _ e => by cases e⟩
    simp [Instr.sliceAt, go_sem, z9]
  · cases h
    have e0 := hg _ _ _ _ rfl
    by_cases hc : cv = k
    · subst hc
      have e : ss.length - cv = 0 := by omega
      have e1 : cv = ss.length := by omega
      refine ⟨some ⟨b, off, none⟩, 0, fun u => ?_, ?_, fun _ _ _ _ e => by cases e; exact e0⟩
      · subst e1
        simp [Instr.sliceAt, go_sem, z9]
      · rw [e]
        exact strs_end rfl (by omega) h3
    · refine ⟨some ⟨b, off + k, none⟩, cv - k, fun u => ?_, strs_cut rfl hk h1 h2 h3 h4, fun _ _ _ _ e => by cases e; exact e0⟩
      have e2 : (k : Int) ≤ (ss.length : Int) := by omega
      have e3 : ¬ cv - k = 0 := by omega
      simp [Instr.sliceAt, go_sem, z9, e2, hc]
/-- A row of bytes keeps. -/
theorem row_keep {w w' : World} {S : List Nat} {B : Nat} {v : Value} {l : List UInt8} (h : Row w B v l) (hT : Turn S w w') (hS : ∀ b, v.ownBlock = some b → b ∉ S) : Row w' B v l := by
  rcases h.2 with hn | ⟨g, cap, cur, rfl, hb, hg, r⟩
  · exact ⟨h.1, .inl hn⟩
  · exact ⟨h.1, .inr ⟨g, cap, cur, rfl, hb, (hT.block g (h_lt hg) (hS g rfl)).trans hg, r⟩⟩
theorem row_ltB {w : World} {B : Nat} {v : Value} {l : List UInt8} (h : Row w B v l) (b : Nat) (e : v.ownBlock = some b) : B ≤ b ∧ b < w.heap.size := by
  rcases h.2 with ⟨rfl, _⟩ | ⟨g, cap, cur, rfl, hb, hg, r⟩
  · cases e
  · cases e
    exact ⟨hb, h_lt hg⟩
/-- Bytes in a block of S. -/
def ByL (w : World) (S : List Nat) (v : Value) (l : List UInt8) : Prop := Row w 0 v l ∧ ∀ b, v.ownBlock = some b → b ∈ S
def LetV : Value := .func (.func 205) #[] #[]
/-- A part that does as a piece says; S: the blocks in which it lies. -/
def PartAt (w : World) (S : List Nat) (v : Value) (x : Pc) : Prop :=
  (x.letter = 0 ∧ ∃ bb ∈ S, ∃ bv, v = .func (.func 188) #[] #[ptr bb] ∧ w.heap[bb]? = some (.cells #[bv] 27) ∧ ByL w S bv x.b) ∨
  (OkPc x ∧ ∃ c ∈ S, w.heap[c]? = some (.cells (cvA x (-1)) 283) ∧
    ((x.letter = 115 ∧ v = .func (.func 211) #[] #[ptr c]) ∨
    ((x.letter = 100 ∨ x.letter = 105) ∧ v = .func (.func 212) #[] #[ptr c]) ∨
    ((x.letter = 120 ∨ x.letter = 111) ∧ ∃ t ∈ S, ∃ b ∈ S, w.heap[t]? = some (.cells #[LetV] 23) ∧ w.heap[b]? = some (.cells #[.int .i64 (baseL x.letter : Int)] 3) ∧ v = .func (.func 216) #[] #[ptr t, ptr c, ptr b])))
theorem PartAt.turn {w w' : World} {S R : List Nat} {v : Value} {x : Pc} (h : PartAt w S v x) (hT : Turn R w w') (hS : ∀ b ∈ S, b ∉ R) : PartAt w' S v x := by
  rcases h with ⟨h0, bb, hbb, bv, rfl, h1, hb, hm⟩ | ⟨hk, c, hc, h1, h2⟩
  · exact .inl ⟨h0, bb, hbb, bv, rfl, (hT.block bb (h_lt h1) (hS bb hbb)).trans h1, row_keep hb hT (fun b e => hS b (hm b e)), hm⟩
  · refine .inr ⟨hk, c, hc, (hT.block c (h_lt h1) (hS c hc)).trans h1, ?_⟩
    rcases h2 with h2 | h2 | ⟨hl, t, ht, b, hb, h3, h4, rfl⟩
    · exact .inl h2
    · exact .inr (.inl h2)
    · exact .inr (.inr ⟨hl, t, ht, b, hb, (hT.block t (h_lt h3) (hS t ht)).trans h3, (hT.block b (h_lt h4) (hS b hb)).trans h4, rfl⟩)
theorem PartAt.sub {w : World} {S S' : List Nat} {v : Value} {x : Pc} (h : PartAt w S v x) (hS : ∀ b ∈ S, b ∈ S') : PartAt w S' v x := by
  rcases h with ⟨h0, bb, hbb, bv, rfl, h1, hb, hm⟩ | ⟨hk, c, hc, h1, h2⟩
  · exact .inl ⟨h0, bb, hS bb hbb, bv, rfl, h1, hb, fun b e => hS b (hm b e)⟩
  · refine .inr ⟨hk, c, hS c hc, h1, ?_⟩
    rcases h2 with h2 | h2 | ⟨hl, t, ht, b, hb, h3, h4, rfl⟩
    · exact .inl h2
    · exact .inr (.inl h2)
    · exact .inr (.inr ⟨hl, t, hS t ht, b, hS b hb, h3, h4, rfl⟩)
/-- The printer. -/
def PrtAt (w : World) (pr tb : Nat) (av tv : Value) (ended : Bool) : Prop := w.heap[pr]? = some (.cells #[av, tv, .bool ended, .func (.func 118) #[] #[ptr tb]] 204)
end Go.Proofs.YteimilnecahifaaGreatDoor.Nm

namespace Go.Proofs.YteimilnecahifaaGreatDoor.Nm
open Go.Proofs.YteimilnecahifaaGreatDoor Go.Proofs.YteimilnecahifaaGreatDoor.Op
open Go.RowKit Go.Lib

theorem byte_info : (Tryz.prog.info? 5).map (fun i => (i.zero, i.size, i.bytes)) = some (some (.int .u8 0), 1, 1) := by kernel_rfl
theorem byte_parts : ∃ i, Tryz.prog.info? 5 = some i ∧ i.zero = some (.int .u8 0) ∧ i.size = 1 ∧ i.bytes = 1 := by
  obtain ⟨i, h, e⟩ := Option.map_eq_some_iff.1 byte_info
  simp only [Prod.mk.injEq] at e
  exact ⟨i, h, e.1, e.2.1, e.2.2⟩
/-- The row is the same one, or a new one. -/
def SameNew (w : World) (v v' : Value) : Prop := ∀ b, v'.ownBlock = some b → v.ownBlock = some b ∨ w.heap.size ≤ b
theorem app_str {w : World} {B n : Nat} {v : Value} {xs : List Value} (hown : w.ownsRow B 5 1 v n xs) (s : ByteArray) (ty : TypeId) (hb : n + s.size ≤ 4194304) {v' : Value} {w' : World} (hr : (Builtin.append_ #[27, 9] ty #[v, .string s]).run Tryz.prog w = .ok v' w') : SameNew w v v' := by
  obtain ⟨i, hi, hz, hsize, hby⟩ := byte_parts
  have ht := Tryz.underlying27
  have hu := Tryz.underlying9
  rcases hown.2 with ⟨rfl, rfl⟩ | ⟨g, cap, cur, rfl, hbg, hg, hnc, hcm, hcs, htake⟩
  · by_cases hm : s.size = 0
    · have hf := run_firstCells_string (P := Tryz.prog) w 1 s
      rw [hm] at hf
      have hr2 : (Builtin.append_ #[27, 9] ty #[.slice none 0 0, .string s]).run Tryz.prog w = .ok (.slice none 0 0) w := by
        simp [Builtin.append_, run_underlying ht, run_underlying hu, sizeOf, typeInfo, hi, hsize, Builtin.lenOf, hm, hf]
      rw [hr] at hr2
      cases hr2
      intro b e
      cases e
    · have hr2 := run_append_nil_string (P := Tryz.prog) w 27 9 ty 5 i (.int .u8 0) ht hu hi hz s (by omega) (by omega) (by rw [hby]; omega)
      rw [hr] at hr2
      cases hr2
      intro b e
      cases e
      exact .inr (Nat.le_refl _)
  · have hxl : xs.length = n := by simpa using hown.1
    by_cases hroom : n + s.size ≤ cap
    · have hr2 := run_append_room_string (P := Tryz.prog) w 27 9 ty 5 i ht hu hi hsize g n cap cur hg s hroom (by rw [hcs, Nat.mul_one]; exact hroom)
      rw [hr] at hr2
      cases hr2
      exact fun b e => .inl e
    · have holds : ∀ j u, xs[j]? = some u → w.cell? ((⟨g, 0, none⟩ : Addr).add j) = some u := hown.cells (g := g) rfl
      have hr2 := run_append_grow_string (P := Tryz.prog) w 27 9 ty 5 i (.int .u8 0) ht hu hi hz ⟨g, 0, none⟩ n cap xs (by rw [hsize]; simpa using hxl) holds s (by omega) (by omega) (by rw [hby]; exact growslice_fits (by omega) (by omega))
      rw [hr] at hr2
      cases hr2
      intro b e
      cases e
      exact .inr (Nat.le_refl _)
theorem app_row {w : World} {B n : Nat} {v : Value} {xs : List Value} (hown : w.ownsRow B 5 1 v n xs) (a : Addr) (m c : Nat) (news : List Value) (hl : news.length = m) (hnews : ∀ j u, news[j]? = some u → w.cell? (a.add j) = some u) (h1 : ∀ u ∈ news, u.oneCell' = true) (ty : TypeId) (hb : n + m ≤ 4194304) {v' : Value} {w' : World} (hr : (Builtin.append_ #[27, 27] ty #[v, .slice (some a) m c]).run Tryz.prog w = .ok v' w') : SameNew w v v' := by
  obtain ⟨i, hi, hz, hsize, hby⟩ := byte_parts
  have ht := Tryz.underlying27
  have hl' : news.length = m * i.size := by rw [hsize, Nat.mul_one]; exact hl
  rcases hown.2 with ⟨rfl, rfl⟩ | ⟨g, cap, cur, rfl, hbg, hg, hnc, hcm, hcs, htake⟩
  · by_cases hm : m = 0
    · subst hm
      have hr2 : (Builtin.append_ #[27, 27] ty #[.slice none 0 0, .slice (some a) 0 c]).run Tryz.prog w = .ok (.slice none 0 0) w := by
        simp [Builtin.append_, run_underlying ht, sizeOf, typeInfo, hi, Builtin.lenOf, Builtin.firstCells, loadCells, loadCellsFrom]
      rw [hr] at hr2
      cases hr2
      intro b e
      cases e
    · have hr2 := run_append_nil (P := Tryz.prog) w 27 ty 5 i (.int .u8 0) ht hi hz a m c news hl' hnews (by omega) (by omega) (by rw [hby]; omega)
      rw [hr] at hr2
      cases hr2
      intro b e
      cases e
      exact .inr (Nat.le_refl _)
  · by_cases hroom : n + m ≤ cap
    · have hr2 := run_append_room (P := Tryz.prog) w 27 ty 5 i ht hi g n cap cur hg a m c news hl' hnews h1 hroom (by rw [hl', hsize, hcs, Nat.mul_one, Nat.mul_one, Nat.mul_one]; exact hroom)
      rw [hr] at hr2
      cases hr2
      exact fun b e => .inl e
    · have holds : ∀ j u, xs[j]? = some u → w.cell? ((⟨g, 0, none⟩ : Addr).add j) = some u := hown.cells (g := g) rfl
      have hr2 := run_append_grow (P := Tryz.prog) w 27 ty 5 i (.int .u8 0) ht hi hz ⟨g, 0, none⟩ n cap xs (by rw [hsize]; exact hown.1) holds a m c news hl' hnews (by omega) (by omega) (by rw [hby]; exact growslice_fits (by omega) (by omega))
      rw [hr] at hr2
      cases hr2
      intro b e
      cases e
      exact .inr (Nat.le_refl _)
/-- A string onto bytes. -/
theorem wpList_str {w : World} {ops : Array Oper} {rest : List Oper} {o : Oper} {a : Act} {Q : Exit → Act → World → Prop} (hgd : o.guard = none) (sl x : Operand)
    (ho : o.op = .call { callee := .builtin .append, args := #[sl, x], argTypes := #[27, 9] }) (B : Nat) (v : Value) (l : List UInt8) (hs : a.eval sl = v) (hown : Row w B v l) (s : List UInt8) (hx : a.eval x = .string (bz s)) (hb : l.length + s.length ≤ 4194304) (hB : B ≤ w.heap.size)
    (h : ∀ v' w', Row w' B v' (l ++ s) → w.grownBy w' v.ownBlock → SameNew w v v' → wpList Tryz.prog ops Q rest (a.put o.dst v') w') : wpList Tryz.prog ops Q (o :: rest) a w := by
  obtain ⟨i, hi, hz, hsize, hby⟩ := byte_parts
  have hsz := bz_size s
  refine wpList_plain hgd fun K hK => ?_
  obtain ⟨v', w', hr, h2, h3, _⟩ := run_append_own_string (P := Tryz.prog) w B 27 9 o.type 5 i Tryz.underlying27 Tryz.underlying9 hi hz hsize hby v l.length (u8s l) hown (bz s) (by unfold maxLen; omega) (by omega) hB
  have h5 := app_str hown (bz s) o.type (by omega) hr
  have e1 : strCells (bz s) = u8s s := by simp [strCells, u8s, bz]
  have h6 : Row w' B v' (l ++ s) := by
    rw [e1, hsz] at h2
    unfold Row
    rw [List.length_append, show u8s (l ++ s) = u8s l ++ u8s s from by simp [u8s]]
    exact h2
  unfold Oper.wp execOp
  simp only [ho, resolve, invoke, builtin, Sem.run_bind, Sem.run_pure, Result.andThen_ok, List.map_toArray, List.map_cons, List.map_nil, hs, hx, hr]
  exact hK _ _ (h v' w' h6 h3 h5)
theorem u8s_one (l : List UInt8) : ∀ u ∈ u8s l, u.oneCell' = true := by
  intro u hu
  simp only [u8s, List.mem_map] at hu
  obtain ⟨c, _, rfl⟩ := hu
  rfl
end Go.Proofs.YteimilnecahifaaGreatDoor.Nm

namespace Go.Proofs.YteimilnecahifaaGreatDoor.Nm
open Go.Proofs.YteimilnecahifaaGreatDoor Go.Proofs.YteimilnecahifaaGreatDoor.Op
open Go.RowKit

theorem natB_step {B v n : Nat} {c : UInt8} {r : List UInt8} (h : natB B v (c :: r) = some n) : ∃ d, digV c = some d ∧ d < B ∧ natB B (v * B + d) r = some n := by
  rw [natB] at h
  cases hd : digV c with
  | none => rw [hd] at h; cases h
  | some d =>
    rw [hd] at h
    simp only at h
    split at h
    · rename_i hlt
      exact ⟨d, rfl, hlt, h⟩
    · cases h
theorem natB_ge {B : Nat} (hB : 1 ≤ B) : ∀ {l : List UInt8} {v n : Nat}, natB B v l = some n → v ≤ n
  | [], v, n, h => by
    simp only [natB, Option.some.injEq] at h
    omega
  | c :: r, v, n, h => by
    obtain ⟨d, _, _, h2⟩ := natB_step h
    have := natB_ge hB h2
    have : v * 1 ≤ v * B := Nat.mul_le_mul_left _ hB
    omega
theorem digV_cases {c : UInt8} {d : Nat} (h : digV c = some d) : (48 ≤ c.toNat ∧ c.toNat ≤ 57 ∧ d + 48 = c.toNat) ∨ (97 ≤ c.toNat ∧ c.toNat ≤ 102 ∧ d + 87 = c.toNat) ∨ (65 ≤ c.toNat ∧ c.toNat ≤ 70) := by
  unfold digV at h
  have e : ∀ a b : UInt8, a ≤ b ↔ a.toNat ≤ b.toNat := fun a b => UInt8.le_iff_toNat_le
  split at h
  · rename_i h1
    simp only [e] at h1
    have h2 : 48 ≤ c.toNat ∧ c.toNat ≤ 57 := h1
    simp only [Option.some.injEq] at h
    omega
  · split at h
    · rename_i h1
      simp only [e] at h1
      have h2 : 97 ≤ c.toNat ∧ c.toNat ≤ 102 := h1
      simp only [Option.some.injEq] at h
      omega
    · split at h
      · rename_i h1
        simp only [e] at h1
        have h2 : 65 ≤ c.toNat ∧ c.toNat ≤ 70 := h1
        omega
      · cases h
theorem or32 (c : UInt8) (h1 : 97 ≤ c.toNat) (h2 : c.toNat ≤ 102) : bits BinOp.or IntKind.u8 (c.toNat : Int) 32 = (c.toNat : Int) := by
  have : ∀ k : Fin 6, bits BinOp.or IntKind.u8 ((97 + k.val : Nat) : Int) 32 = ((97 + k.val : Nat) : Int) := by decide
  have h := this ⟨c.toNat - 97, by omega⟩
  simp only [show 97 + (c.toNat - 97) = c.toNat by omega] at h
  exact h
theorem lower_c (c : UInt8) (h1 : 97 ≤ c.toNat) (h2 : c.toNat ≤ 102) (w : World) : Calls Tryz.prog 276 #[.int .u8 (c.toNat : Int)] w fun e w' => e = .returned (.int .u8 (c.toNat : Int)) ∧ w' = w := by
  have ho := or32 c h1 h2
  go_enter Tryz.func276, Tryz.ntmps276
  go_wp2
  go_ret
  exact ⟨rfl, rfl⟩
theorem drop_at {L : List UInt8} {k : Nat} (h : k < L.length) : L.drop k = L[k] :: L.drop (k + 1) := List.drop_eq_getElem_cons h
theorem ret2_pu {a b : Nat} (h : a = b) : Ending.returned (.tuple #[.int .u64 (a : Int), .nilIface]) = .returned (.tuple #[.int .u64 (b : Int), .nilIface]) := by rw [h]
set_option maxRecDepth 100000 in
set_option maxHeartbeats 4000000 in
theorem pu_8 (L : List UInt8) (n : Nat) (h0 : L ≠ []) (hv : natB 8 0 L = some n) (hn : n ≤ 9223372036854775807) (hc : ∀ c ∈ L, ¬ (65 ≤ c.toNat ∧ c.toNat ≤ 70)) (hz : L.length ≤ 2097152) (w : World) : Calls Tryz.prog 265 #[.string (bz L), .int .i64 8, .int .i64 64] w fun e w' => e = .returned (.tuple #[.int .u64 (n : Int), .nilIface]) ∧ Below w.heap.size w w' := by
  have hem : (bz L).toList.isEmpty = false := by rw [ByteArray.toList_eq, List.isEmpty_eq_false_iff]; exact h0
  have hsz := bz_size L
  have HV := Lib.hid (And.intro hv (And.intro hn hc))
  have hcs : (convert 9 27 (.string (bz L))).run Tryz.prog w = .ok (.slice (some ⟨w.heap.size, 0, none⟩) L.length (grownCap w L.length 0 5)) (Lib.bytesWorld w 5 (bz L)) := by
    have := Lib.run_convert_string_bytes w 9 27 5 (bz L) Tryz.underlying9 Tryz.underlying27 Tryz.underlying5
    rw [bz_size] at this
    exact this
  have hB : Below w.heap.size w (Lib.bytesWorld w 5 (bz L)) := ⟨rfl, rfl, rfl, by rw [Lib.bytesWorld_size]; omega, fun k hk => Lib.bytesWorld_at_old w _ _ k (by omega)⟩
  have HC : Hid (∀ j (hj : j < L.length), (Lib.bytesWorld w 5 (bz L)).cell? ⟨w.heap.size, j, none⟩ = some (.int .u8 (L[j].toNat : Int))) := Lib.hid fun j hj => by
    rw [Lib.bytesWorld_cell w 5 (bz L) j (by rw [bz_size]; exact hj)]
    simp [bz, hj]
  have hcap : L.length ≤ grownCap w L.length 0 5 := grownCap_ge w L.length 0 _
  clear h0 hv hn hc
  have hw0 : IntKind.u64.wrap 18446744073709551616 = 0 := by decide
  have hw1 : IntKind.u64.wrap (0 - 1) = 18446744073709551615 := by decide
  have hw2 : IntKind.u64.wrap (-1) = 18446744073709551615 := by decide
  have HB := Lib.hid hB
  clear hB
  go_enter Tryz.func265, Tryz.ntmps265
  go_wp2
  generalize Lib.bytesWorld w 5 (bz L) = U at HC HB hcs ⊢
  clear hcs hem
  generalize grownCap w L.length 0 5 = cap at hcap ⊢
  go_loop [12, 13, 101] (fun uv nv iv => ∃ (k v : Nat), uv = .bool false ∧ k ≤ L.length ∧ iv = .int .i64 (k : Int) ∧ nv = .int .u64 (v : Int) ∧ v ≤ 9223372036854775807 ∧ Hid (natB 8 v (L.drop k) = some n)) (fun _ _ iv => L.length - (intOf iv).toNat)
  case atStart => exact ⟨0, 0, rfl, by omega, rfl, rfl, by omega, Lib.hid HV.out.1⟩
  case round =>
    obtain ⟨k, v, rfl, hk, rfl, rfl, hv1, HI⟩ := hrel
    by_cases hlt : k < L.length
    · have hI := HI.out
      rw [drop_at hlt] at hI
      obtain ⟨d, hd, hdb, hI2⟩ := natB_step hI
      have hge := natB_ge (by omega) hI2
      have hnn := HV.out.2.1
      have hcc := HC.out k hlt
      have hnc := HV.out.2.2 L[k] (List.getElem_mem hlt)
      have HN := Lib.hid hI2
      clear hI hI2 HI
      generalize L[k] = c at *
      have hd3 := digV_cases hd
      have h256 : c.toNat < 256 := c.toNat_lt
      clear hd
      rcases hd3 with ⟨c1, c2, c3⟩ | ⟨c1, c2, c3⟩ | ⟨c1, c2⟩
      · obtain rfl : d = c.toNat - 48 := by omega
        have hvd : v * 8 + (c.toNat - 48) ≤ 9223372036854775807 := by omega
        have h5a : decide ((v : Int) * 8 + ((c.toNat : Int) - 48) < (v : Int) * 8) = false := decide_eq_false (by omega)
        have h5b : decide ((18446744073709551615 : Int) < (v : Int) * 8 + ((c.toNat : Int) - 48)) = false := decide_eq_false (by omega)
        have hcut : decide ((2305843009213693952 : Int) ≤ (v : Int)) = false := decide_eq_false (by omega)
        clear hnc hge hnn c3
        go_wp2
        refine ⟨⟨k + 1, v * 8 + (c.toNat - 48), rfl, by omega, by go_num, by go_num, by omega, HN⟩, by simp [intOf]; omega⟩
      · exact absurd hdb (by omega)
      · exact absurd ⟨c1, c2⟩ hnc
    · have hE : v = n := by
        have := HI.out
        rw [List.drop_eq_nil_of_le (by omega)] at this
        simpa [natB] using this
      go_wp2
      go_ret2
      exact ⟨by first | rfl | exact ret2_pu hE, HB.out⟩
set_option maxRecDepth 100000 in
set_option maxHeartbeats 4000000 in
theorem pu_10 (L : List UInt8) (n : Nat) (h0 : L ≠ []) (hv : natB 10 0 L = some n) (hn : n ≤ 9223372036854775807) (hc : ∀ c ∈ L, ¬ (65 ≤ c.toNat ∧ c.toNat ≤ 70)) (hz : L.length ≤ 2097152) (w : World) : Calls Tryz.prog 265 #[.string (bz L), .int .i64 10, .int .i64 64] w fun e w' => e = .returned (.tuple #[.int .u64 (n : Int), .nilIface]) ∧ Below w.heap.size w w' := by
  have hem : (bz L).toList.isEmpty = false := by rw [ByteArray.toList_eq, List.isEmpty_eq_false_iff]; exact h0
  have hsz := bz_size L
  have HV := Lib.hid (And.intro hv (And.intro hn hc))
  have hcs : (convert 9 27 (.string (bz L))).run Tryz.prog w = .ok (.slice (some ⟨w.heap.size, 0, none⟩) L.length (grownCap w L.length 0 5)) (Lib.bytesWorld w 5 (bz L)) := by
    have := Lib.run_convert_string_bytes w 9 27 5 (bz L) Tryz.underlying9 Tryz.underlying27 Tryz.underlying5
    rw [bz_size] at this
    exact this
  have hB : Below w.heap.size w (Lib.bytesWorld w 5 (bz L)) := ⟨rfl, rfl, rfl, by rw [Lib.bytesWorld_size]; omega, fun k hk => Lib.bytesWorld_at_old w _ _ k (by omega)⟩
  have HC : Hid (∀ j (hj : j < L.length), (Lib.bytesWorld w 5 (bz L)).cell? ⟨w.heap.size, j, none⟩ = some (.int .u8 (L[j].toNat : Int))) := Lib.hid fun j hj => by
    rw [Lib.bytesWorld_cell w 5 (bz L) j (by rw [bz_size]; exact hj)]
    simp [bz, hj]
  have hcap : L.length ≤ grownCap w L.length 0 5 := grownCap_ge w L.length 0 _
  clear h0 hv hn hc
  have hw0 : IntKind.u64.wrap 18446744073709551616 = 0 := by decide
  have hw1 : IntKind.u64.wrap (0 - 1) = 18446744073709551615 := by decide
  have hw2 : IntKind.u64.wrap (-1) = 18446744073709551615 := by decide
  have HB := Lib.hid hB
  clear hB
  go_enter Tryz.func265, Tryz.ntmps265
  go_wp2
  generalize Lib.bytesWorld w 5 (bz L) = U at HC HB hcs ⊢
  clear hcs hem
  generalize grownCap w L.length 0 5 = cap at hcap ⊢
  go_loop [12, 13, 101] (fun uv nv iv => ∃ (k v : Nat), uv = .bool false ∧ k ≤ L.length ∧ iv = .int .i64 (k : Int) ∧ nv = .int .u64 (v : Int) ∧ v ≤ 9223372036854775807 ∧ Hid (natB 10 v (L.drop k) = some n)) (fun _ _ iv => L.length - (intOf iv).toNat)
  case atStart => exact ⟨0, 0, rfl, by omega, rfl, rfl, by omega, Lib.hid HV.out.1⟩
  case round =>
    obtain ⟨k, v, rfl, hk, rfl, rfl, hv1, HI⟩ := hrel
    by_cases hlt : k < L.length
    · have hI := HI.out
      rw [drop_at hlt] at hI
      obtain ⟨d, hd, hdb, hI2⟩ := natB_step hI
      have hge := natB_ge (by omega) hI2
      have hnn := HV.out.2.1
      have hcc := HC.out k hlt
      have hnc := HV.out.2.2 L[k] (List.getElem_mem hlt)
      have HN := Lib.hid hI2
      clear hI hI2 HI
      generalize L[k] = c at *
      have hd3 := digV_cases hd
      have h256 : c.toNat < 256 := c.toNat_lt
      clear hd
      rcases hd3 with ⟨c1, c2, c3⟩ | ⟨c1, c2, c3⟩ | ⟨c1, c2⟩
      · obtain rfl : d = c.toNat - 48 := by omega
        have hvd : v * 10 + (c.toNat - 48) ≤ 9223372036854775807 := by omega
        have h5a : decide ((v : Int) * 10 + ((c.toNat : Int) - 48) < (v : Int) * 10) = false := decide_eq_false (by omega)
        have h5b : decide ((18446744073709551615 : Int) < (v : Int) * 10 + ((c.toNat : Int) - 48)) = false := decide_eq_false (by omega)
        have hcut : decide ((1844674407370955162 : Int) ≤ (v : Int)) = false := decide_eq_false (by omega)
        clear hnc hge hnn c3
        go_wp2
        refine ⟨⟨k + 1, v * 10 + (c.toNat - 48), rfl, by omega, by go_num, by go_num, by omega, HN⟩, by simp [intOf]; omega⟩
      · exact absurd hdb (by omega)
      · exact absurd ⟨c1, c2⟩ hnc
    · have hE : v = n := by
        have := HI.out
        rw [List.drop_eq_nil_of_le (by omega)] at this
        simpa [natB] using this
      go_wp2
      go_ret2
      exact ⟨by first | rfl | exact ret2_pu hE, HB.out⟩
set_option maxRecDepth 100000 in
set_option maxHeartbeats 4000000 in
theorem pu_16 (L : List UInt8) (n : Nat) (h0 : L ≠ []) (hv : natB 16 0 L = some n) (hn : n ≤ 9223372036854775807) (hc : ∀ c ∈ L, ¬ (65 ≤ c.toNat ∧ c.toNat ≤ 70)) (hz : L.length ≤ 2097152) (w : World) : Calls Tryz.prog 265 #[.string (bz L), .int .i64 16, .int .i64 64] w fun e w' => e = .returned (.tuple #[.int .u64 (n : Int), .nilIface]) ∧ Below w.heap.size w w' := by
  have hem : (bz L).toList.isEmpty = false := by rw [ByteArray.toList_eq, List.isEmpty_eq_false_iff]; exact h0
  have hsz := bz_size L
  have HV := Lib.hid (And.intro hv (And.intro hn hc))
  have hcs : (convert 9 27 (.string (bz L))).run Tryz.prog w = .ok (.slice (some ⟨w.heap.size, 0, none⟩) L.length (grownCap w L.length 0 5)) (Lib.bytesWorld w 5 (bz L)) := by
    have := Lib.run_convert_string_bytes w 9 27 5 (bz L) Tryz.underlying9 Tryz.underlying27 Tryz.underlying5
    rw [bz_size] at this
    exact this
  have hB : Below w.heap.size w (Lib.bytesWorld w 5 (bz L)) := ⟨rfl, rfl, rfl, by rw [Lib.bytesWorld_size]; omega, fun k hk => Lib.bytesWorld_at_old w _ _ k (by omega)⟩
  have HC : Hid (∀ j (hj : j < L.length), (Lib.bytesWorld w 5 (bz L)).cell? ⟨w.heap.size, j, none⟩ = some (.int .u8 (L[j].toNat : Int))) := Lib.hid fun j hj => by
    rw [Lib.bytesWorld_cell w 5 (bz L) j (by rw [bz_size]; exact hj)]
    simp [bz, hj]
  have hcap : L.length ≤ grownCap w L.length 0 5 := grownCap_ge w L.length 0 _
  clear h0 hv hn hc
  have hw0 : IntKind.u64.wrap 18446744073709551616 = 0 := by decide
  have hw1 : IntKind.u64.wrap (0 - 1) = 18446744073709551615 := by decide
  have hw2 : IntKind.u64.wrap (-1) = 18446744073709551615 := by decide
  have HB := Lib.hid hB
  clear hB
  go_enter Tryz.func265, Tryz.ntmps265
  go_wp2
  generalize Lib.bytesWorld w 5 (bz L) = U at HC HB hcs ⊢
  clear hcs hem
  generalize grownCap w L.length 0 5 = cap at hcap ⊢
  go_loop [12, 13, 101] (fun uv nv iv => ∃ (k v : Nat), uv = .bool false ∧ k ≤ L.length ∧ iv = .int .i64 (k : Int) ∧ nv = .int .u64 (v : Int) ∧ v ≤ 9223372036854775807 ∧ Hid (natB 16 v (L.drop k) = some n)) (fun _ _ iv => L.length - (intOf iv).toNat)
  case atStart => exact ⟨0, 0, rfl, by omega, rfl, rfl, by omega, Lib.hid HV.out.1⟩
  case round =>
    obtain ⟨k, v, rfl, hk, rfl, rfl, hv1, HI⟩ := hrel
    by_cases hlt : k < L.length
    · have hI := HI.out
      rw [drop_at hlt] at hI
      obtain ⟨d, hd, hdb, hI2⟩ := natB_step hI
      have hge := natB_ge (by omega) hI2
      have hnn := HV.out.2.1
      have hcc := HC.out k hlt
      have hnc := HV.out.2.2 L[k] (List.getElem_mem hlt)
      have HN := Lib.hid hI2
      clear hI hI2 HI
      generalize L[k] = c at *
      have hd3 := digV_cases hd
      have h256 : c.toNat < 256 := c.toNat_lt
      clear hd
      rcases hd3 with ⟨c1, c2, c3⟩ | ⟨c1, c2, c3⟩ | ⟨c1, c2⟩
      · obtain rfl : d = c.toNat - 48 := by omega
        have hvd : v * 16 + (c.toNat - 48) ≤ 9223372036854775807 := by omega
        have h5a : decide ((v : Int) * 16 + ((c.toNat : Int) - 48) < (v : Int) * 16) = false := decide_eq_false (by omega)
        have h5b : decide ((18446744073709551615 : Int) < (v : Int) * 16 + ((c.toNat : Int) - 48)) = false := decide_eq_false (by omega)
        have hcut : decide ((1152921504606846976 : Int) ≤ (v : Int)) = false := decide_eq_false (by omega)
        clear hnc hge hnn c3
        go_wp2
        refine ⟨⟨k + 1, v * 16 + (c.toNat - 48), rfl, by omega, by go_num, by go_num, by omega, HN⟩, by simp [intOf]; omega⟩
      · obtain rfl : d = c.toNat - 87 := by omega
        have hvd : v * 16 + (c.toNat - 87) ≤ 9223372036854775807 := by omega
        have h5a : decide ((v : Int) * 16 + ((c.toNat : Int) - 97 + 10) < (v : Int) * 16) = false := decide_eq_false (by omega)
        have h5b : decide ((18446744073709551615 : Int) < (v : Int) * 16 + ((c.toNat : Int) - 97 + 10)) = false := decide_eq_false (by omega)
        have hcut : decide ((1152921504606846976 : Int) ≤ (v : Int)) = false := decide_eq_false (by omega)
        have hlw := fun u => lower_c c c1 c2 u
        clear hnc hge hnn c3
        go_wp2_with (go_at_call 276; refine (hlw _).mono ?_; rintro e w' ⟨rfl, hw'⟩; rw [hw']; clear hw')
        refine ⟨⟨k + 1, v * 16 + (c.toNat - 87), rfl, by omega, by go_num, by go_num, by omega, HN⟩, by simp [intOf]; omega⟩
      · exact absurd ⟨c1, c2⟩ hnc
    · have hE : v = n := by
        have := HI.out
        rw [List.drop_eq_nil_of_le (by omega)] at this
        simpa [natB] using this
      go_wp2
      go_ret2
      exact ⟨by first | rfl | exact ret2_pu hE, HB.out⟩
end Go.Proofs.YteimilnecahifaaGreatDoor.Nm

namespace Go.Proofs.YteimilnecahifaaGreatDoor.Nm
open Go.Proofs.YteimilnecahifaaGreatDoor Go.Proofs.YteimilnecahifaaGreatDoor.Op
open Go.RowKit

theorem repeat_many (c : UInt8) : ∀ n, Lib.repeatL [c] n = many c n
  | 0 => rfl
  | n + 1 => by rw [Lib.repeatL, repeat_many c n]; rfl
theorem rep_c (c : UInt8) (n : Nat) (hn : n ≤ 1000) (w : World) : Calls Tryz.prog 246 #[.string ⟨#[c]⟩, .int .i64 (n : Int)] w fun e w' => e = .returned (.string (bz (many c n))) ∧ Below w.heap.size w w' := by
  have h := Tryz.strings_Repeat ⟨#[c]⟩ n w (by omega) (by rw [show (⟨#[c]⟩ : ByteArray).size = 1 from rfl]; omega)
  rw [show (⟨#[c]⟩ : ByteArray).data.toList = [c] from rfl, repeat_many] at h
  exact h
theorem toNat_ne {a b : UInt8} (h : a ≠ b) : ((a.toNat : Int) == (b.toNat : Int)) = false := by
  rw [beq_eq_false_iff_ne]
  intro e
  exact h (UInt8.toNat_inj.1 (by omega))
set_option maxRecDepth 100000 in
set_option maxHeartbeats 2000000 in
theorem takeFlag_yes {w : World} {b : Nat} {x y : Pc} {p : Int} {c : UInt8} (h : w.heap[b]? = some (.cells (cvA x p) 283)) (hf : flagS x c = some y) : Calls Tryz.prog 185 #[ptr b, .int .u8 (c.toNat : Int)] w fun e w' => e = .returned (.bool true) ∧ w'.heap[b]? = some (.cells (cvA y p) 283) ∧ Turn [b] w w' := by
  have z0 := h_fz h 0; have z1 := h_fz h 1; have z2 := h_fz h 2; have z3 := h_fz h 3; have z4 := h_fz h 4
  have c0 := h_cell h 0 rfl; have c1 := h_cell h 1 rfl; have c2 := h_cell h 2 rfl; have c3 := h_cell h 3 rfl; have c4 := h_cell h 4 rfl
  have hlt := h_lt h
  have H := Lib.hid h
  clear h
  unfold flagS at hf
  split at hf
  · rename_i e; subst e; cases hf
    go_enter Tryz.func185, Tryz.ntmps185
    go_wp2
    go_ret
    exact ⟨rfl, h_set H.out 0 (.bool true), Turn.set w b 0 _ (by simp)⟩
  split at hf
  · rename_i e; subst e; cases hf
    go_enter Tryz.func185, Tryz.ntmps185
    go_wp2
    go_ret
    exact ⟨rfl, h_set H.out 1 (.bool true), Turn.set w b 1 _ (by simp)⟩
  split at hf
  · rename_i e; subst e; cases hf
    go_enter Tryz.func185, Tryz.ntmps185
    go_wp2
    go_ret
    exact ⟨rfl, h_set H.out 2 (.bool true), Turn.set w b 2 _ (by simp)⟩
  split at hf
  · rename_i e; subst e; cases hf
    go_enter Tryz.func185, Tryz.ntmps185
    go_wp2
    go_ret
    exact ⟨rfl, h_set H.out 3 (.bool true), Turn.set w b 3 _ (by simp)⟩
  split at hf
  · rename_i e; subst e; cases hf
    go_enter Tryz.func185, Tryz.ntmps185
    go_wp2
    go_ret
    exact ⟨rfl, h_set H.out 4 (.bool true), Turn.set w b 4 _ (by simp)⟩
  · cases hf
theorem takeFlag_no {w : World} {b : Nat} {x : Pc} {c : UInt8} (hf : flagS x c = none) : Calls Tryz.prog 185 #[ptr b, .int .u8 (c.toNat : Int)] w fun e w' => e = .returned (.bool false) ∧ w' = w := by
  unfold flagS at hf
  split at hf
  · cases hf
  rename_i n0
  split at hf
  · cases hf
  rename_i n1
  split at hf
  · cases hf
  rename_i n2
  split at hf
  · cases hf
  rename_i n3
  split at hf
  · cases hf
  rename_i n4
  have e0 : ((c.toNat : Int) == 45) = false := toNat_ne n0
  have e1 : ((c.toNat : Int) == 43) = false := toNat_ne n1
  have e2 : ((c.toNat : Int) == 32) = false := toNat_ne n2
  have e3 : ((c.toNat : Int) == 48) = false := toNat_ne n3
  have e4 : ((c.toNat : Int) == 35) = false := toNat_ne n4
  clear n0 n1 n2 n3 n4 hf
  go_enter Tryz.func185, Tryz.ntmps185
  go_wp2
  go_ret
  exact ⟨rfl, rfl⟩
theorem room_nat (W a s : Nat) : (max (0 : Int) ((W : Int) - (a : Int) - (s : Int))) = ((W - (a + s) : Nat) : Int) := by omega
end Go.Proofs.YteimilnecahifaaGreatDoor.Nm
