/- append(s, make([]byte, m)...): a law for it on a row of one's own. -/
import Derived.Laws.AppendOwn
import Derived.OwnWalk
import Derived.WalkKit
import Derived.Test.YtbbmihlabllliaaGreatDoorProg
namespace Go.Proofs.YtbbmihlabllliaaGreatDoor
open Go.RowKit

def noughts (m : Nat) : List Value := List.replicate m (.int .u8 0)
theorem info5 : (Tryz.prog.info? 5).map (fun i => (i.zero, i.size, i.bytes)) = some (some (.int .u8 0), 1, 1) := by kernel_rfl
theorem zeroCells_u8 (m : Nat) : Builtin.zeroCells (Value.cells (.int .u8 0)) m = (noughts m).toArray := by
  have h : (Value.cells (.int .u8 0)) = #[.int .u8 0] := rfl
  rw [h, Builtin.zeroCells, noughts]
  apply Array.ext
  · simp
  · intro j h1 h2
    simp [Nat.mod_one]

theorem zeros_one : ∀ m, ∀ u ∈ noughts m, u.oneCell' = true := fun m u hu => by
  rw [(List.mem_replicate.1 hu).2]; rfl
theorem size_noughts (m : Nat) : (noughts m).length = m := by simp [noughts]

theorem zeros_nil (w : World) (ty : TypeId) (m : Nat) (hm : 0 < m) (h : m ≤ 35184372088832) :
    (Builtin.append_ #[33, 3] ty #[.slice none 0 0, .int .i64 m]).run Tryz.prog w = .ok (.slice (some ⟨w.heap.size, 0, none⟩) m (grownCap w m 0 5)) (w.drew.alloc (.cells ((noughts m).toArray ++ Builtin.zeroCells (Value.cells (.int .u8 0)) (grownCap w m 0 5 - m)) 5)) := by
  obtain ⟨i, hi, hz, hsz, hby⟩ := info_parts info5
  have hu : Tryz.prog.underlying 33 = some (.slice 5) := Tryz.underlying33
  have hu3 : Tryz.prog.underlying 3 = some (.int .i64) := Tryz.underlying3
  have hw : IntKind.i64.wrap (m : Int) = m := IntWalk.i64_in _ (by omega)
  have h1 : ¬ ((m : Int) < 0) := by omega
  have h2 : ¬ ((281474976710656 : Int) < (m : Int)) := by omega
  have h3 : ¬ (m = 0) := by omega
  have h4 : ¬ ((9223372036854775807 : Int) < (m : Int)) := by omega
  have h5 : ¬ (281474976710656 < Builtin.nextslicecap m 0) := by rw [nextslicecap_zero hm]; omega
  have hr := run_firstCells_none (P := Tryz.prog) w.drew 1 0 0 0
  simp [Builtin.append_, run_underlying hu, run_underlying hu3, sizeOf, typeInfo, zeroValue, hi, hz, hsz, hby, asInt, asIntOf, hw, h1, h2, h3, h4, h5, Question.forced, hr, newRow, grownCap, zeroCells_u8]

theorem zeros_grow (w : World) (ty : TypeId) (b : Addr) (n cap m : Nat) (olds : List Value) (hlo : olds.length = n) (holds : ∀ j v, olds[j]? = some v → w.cell? (b.add j) = some v) (hg : cap < n + m) (hm0 : 0 < m) (h : n + m ≤ 35184372088832) :
    (Builtin.append_ #[33, 3] ty #[.slice (some b) n cap, .int .i64 m]).run Tryz.prog w = .ok (.slice (some ⟨w.heap.size, 0, none⟩) (n + m) (grownCap w (n + m) cap 5)) (w.drew.alloc (.cells (olds.toArray ++ (noughts m).toArray ++ Builtin.zeroCells (Value.cells (.int .u8 0)) (grownCap w (n + m) cap 5 - (n + m))) 5)) := by
  obtain ⟨i, hi, hz, hsz, hby⟩ := info_parts info5
  have hu : Tryz.prog.underlying 33 = some (.slice 5) := Tryz.underlying33
  have hu3 : Tryz.prog.underlying 3 = some (.int .i64) := Tryz.underlying3
  have hw : IntKind.i64.wrap (m : Int) = m := IntWalk.i64_in _ (by omega)
  have h1 : ¬ ((m : Int) < 0) := by omega
  have h2 : ¬ ((281474976710656 : Int) < (m : Int)) := by omega
  have h3 : ¬ (n + m ≤ cap) := by omega
  have h4 : ¬ ((9223372036854775807 : Int) < (n : Int) + (m : Int)) := by omega
  have h5 : ¬ (281474976710656 < Builtin.nextslicecap (n + m) cap) := by have := growslice_fits (bytes := 1) hg (by omega); omega
  have hr := run_firstCells_some (P := Tryz.prog) w.drew 1 n b n cap olds (by omega) (by simpa using holds)
  have hm : ¬ m = 0 := by omega
  simp [Builtin.append_, run_underlying hu, run_underlying hu3, sizeOf, typeInfo, zeroValue, hi, hz, hsz, hby, asInt, asIntOf, hw, h1, h2, h3, h4, h5, hm, Question.forced, hr, newRow, grownCap, zeroCells_u8]

theorem zeros_room (w : World) (ty : TypeId) (g n cap m : Nat) (cur : Array Value) (hg : w.heap[g]? = some (.cells cur 5 (0, 0))) (hm : 0 < m) (hroom : n + m ≤ cap) (hfit : n + m ≤ cur.size) (h : n + m ≤ 35184372088832) :
    (Builtin.append_ #[33, 3] ty #[.slice (some ⟨g, 0, none⟩) n cap, .int .i64 m]).run Tryz.prog w = .ok (.slice (some ⟨g, 0, none⟩) (n + m) cap) (w.setRow g (cur.toList.take n ++ noughts m ++ cur.toList.drop (n + m)).toArray) := by
  obtain ⟨i, hi, hz, hsz, hby⟩ := info_parts info5
  have hu : Tryz.prog.underlying 33 = some (.slice 5) := Tryz.underlying33
  have hu3 : Tryz.prog.underlying 3 = some (.int .i64) := Tryz.underlying3
  have hw : IntKind.i64.wrap (m : Int) = m := IntWalk.i64_in _ (by omega)
  have h1 : ¬ ((m : Int) < 0) := by omega
  have h2 : ¬ ((281474976710656 : Int) < (m : Int)) := by omega
  have h3 : ¬ (m = 0) := by omega
  have hst := run_storeCells_at Tryz.prog g n 5 (noughts m) 0 cur w hg (by rw [size_noughts]; omega) (zeros_one m)
  rw [size_noughts] at hst
  simp only [Nat.add_zero] at hst
  simp [Builtin.append_, run_underlying hu, run_underlying hu3, sizeOf, typeInfo, zeroValue, hi, hz, hsz, hby, asInt, asIntOf, hw, h1, h2, h3, hroom, Question.forced, zeroCells_u8, Addr.add_lit, hst]

theorem run_zeros (w : World) (base : Nat) (v : Value) (n : Nat) (xs : List Value) (m : Nat) (hown : w.ownsRow base 5 1 v n xs) (hm : 0 < m) (h63 : n + m ≤ 35184372088832) (hbase : base ≤ w.heap.size) :
    ∃ v' w', (∀ ty, (Builtin.append_ #[33, 3] ty #[v, .int .i64 m]).run Tryz.prog w = .ok v' w') ∧ w'.ownsRow base 5 1 v' (n + m) (xs ++ noughts m) ∧ w.grownBy w' v.ownBlock ∧ (v'.ownBlock = v.ownBlock ∨ ∃ g, v'.ownBlock = some g ∧ w.heap.size ≤ g) := by
  have hx1 : xs.length = n := by simpa using hown.1
  have hlen : (xs ++ noughts m).length = (n + m) * 1 := by rw [List.length_append, size_noughts]; omega
  have new : ∀ (old : Nat) (row : Option Nat), (w.drew.alloc (.cells (xs.toArray ++ (noughts m).toArray ++ Builtin.zeroCells (Value.cells (.int .u8 0)) (grownCap w (n + m) old 5 - (n + m))) 5)).ownsRow base 5 1 (.slice (some ⟨w.heap.size, 0, none⟩) (n + m) (grownCap w (n + m) old 5)) (n + m) (xs ++ noughts m) ∧
      w.grownBy (w.drew.alloc (.cells (xs.toArray ++ (noughts m).toArray ++ Builtin.zeroCells (Value.cells (.int .u8 0)) (grownCap w (n + m) old 5 - (n + m))) 5)) row := by
    intro old row
    have hge := grownCap_ge w (n + m) old 5
    refine ⟨⟨hlen, .inr ⟨w.heap.size, _, _, rfl, hbase, heap_alloc_new w.drew _, hge, grownCap_le_maxLen w (n + m) old 5 (by unfold maxLen; omega), ?_, ?_⟩⟩, ⟨rfl, rfl, rfl, by simp, fun k hk _ => Below.heap_alloc w.drew _ k hk⟩⟩
    · rw [zeroCells_u8]
      simp only [Array.size_append, List.size_toArray, size_noughts, hx1]
      omega
    · rw [← hlen]
      simp only [Array.toList_append]
      exact List.take_left
  rcases hown.2 with ⟨rfl, rfl⟩ | ⟨g, cap, cur, rfl, hbg, hg, hnc, hcm, hcs, htake⟩
  · obtain rfl : xs = [] := List.eq_nil_of_length_eq_zero hx1
    have hr := fun ty => zeros_nil w ty m hm (by omega)
    have hn := new 0 (Value.ownBlock (.slice none 0 0))
    simp only [Nat.zero_add, List.nil_append, Array.empty_append] at hn ⊢
    exact ⟨_, _, hr, hn.1, hn.2, .inr ⟨_, rfl, Nat.le_refl _⟩⟩
  · by_cases hroom : n + m ≤ cap
    · have hfit : n + m ≤ cur.size := by omega
      refine ⟨_, _, fun ty => zeros_room w ty g n cap m cur hg hm hroom hfit h63, ⟨hlen, .inr ⟨g, cap, _, rfl, hbg, setRow_heap w g cur _ 5 _ hg, hroom, hcm, ?_, ?_⟩⟩, ⟨rfl, rfl, rfl, by simp, fun k _ hk => setRow_other w g k _ (fun e => hk (by simp [Value.ownBlock, e]))⟩, .inl rfl⟩
      · simp only [List.size_toArray, List.length_append, List.length_take, List.length_drop, Array.length_toList, size_noughts]
        omega
      · have ht : cur.toList.take n = xs := by simpa using htake
        rw [ht, ← hlen]
        exact List.take_left
    · have hcells : ∀ j u, xs[j]? = some u → w.cell? ((⟨g, 0, none⟩ : Addr).add j) = some u := hown.cells (g := g) rfl
      have hn := new cap (Value.ownBlock (.slice (some ⟨g, 0, none⟩) n cap))
      exact ⟨_, _, fun ty => zeros_grow w ty ⟨g, 0, none⟩ n cap m xs hx1 hcells (by omega) hm h63, hn.1, hn.2, .inr ⟨_, rfl, Nat.le_refl _⟩⟩

theorem wpList_zeros (w : World) {ops : Array Oper} {rest : List Oper} {o : Oper} {a : Act} {Q : Exit → Act → World → Prop} (hgd : o.guard = none) (s x : Operand)
    (ho : o.op = .call { callee := .builtin .append, args := #[s, x], argTypes := #[33, 3] }) (v : Value) (m : Nat) (hs : a.eval s = v) (hx : a.eval x = .int .i64 m) (v' : Value) (w' : World)
    (hrun : ∀ ty, (Builtin.append_ #[33, 3] ty #[v, .int .i64 m]).run Tryz.prog w = .ok v' w') (h : wpList Tryz.prog ops Q rest (a.put o.dst v') w') : wpList Tryz.prog ops Q (o :: rest) a w :=
  wpList_plain hgd fun _ hK => by
    unfold Oper.wp execOp
    simp only [ho, resolve, invoke, builtin, Sem.run_bind, Sem.run_pure, Result.andThen_ok, List.map_toArray, List.map_cons, List.map_nil, hs, hx, hrun]
    exact hK _ _ h
end Go.Proofs.YtbbmihlabllliaaGreatDoor
