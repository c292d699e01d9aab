/- Machines: how one lies in memory; the call at which main waits. -/
import Derived.Recover
import Derived.Defers
import Derived.Test.YteimilnecahifaaGreatDoorKBefall
import Derived.Test.YteimilnecahifaaGreatDoorMSink
import Derived.Laws.StructEq
import Derived.Maps.AppendAt
import Derived.Laws.Strings
import Derived.Lib.ConvBytes
import Derived.Maps.OwnSet
namespace Go.Proofs.YteimilnecahifaaGreatDoor
open Go.RowKit Go.Maps

/-- A machine. -/
abbrev McAt (w : World) (m pr : Nat) (main past : Value) (told : Int) (next : Value) (once : Bool) (steps : Int) (done : Bool) (status : Int) : Prop :=
  w.heap[m]? = some (.cells #[ptr pr, main, past, .int .i64 told, next, .bool once, .int .i64 steps, .bool done, .int .i64 status] 98)

theorem fn_neq (f : Fn) (x y : Array Value) (w : World) : (binOp .neq 96 (.func f x y) .nilFunc).run Tryz.prog w = .ok (.bool true) w := by kernel_rfl
theorem nilfn_neq (w : World) : (binOp .neq 96 .nilFunc .nilFunc).run Tryz.prog w = .ok (.bool false) w := by kernel_rfl
theorem nilan_neq (w : World) : (binOp .neq 148 (.pointer none) (.pointer none)).run Tryz.prog w = .ok (.bool false) w := by kernel_rfl

theorem store_fn {w : World} {a : Addr} {v0 : Value} (f : Fn) (y z : Array Value) (hc : w.cell? a = some v0) (hz : w.frozen? a = false) : (store a (.func f y z)).run Tryz.prog w = .ok () (w.setCell a (.func f y z)) := by simp [store, Sem.run, hc, hz]
theorem any_neq (T : TypeId) (v : Value) (w : World) : (binOp .neq 20 (.iface T v) .nilIface).run Tryz.prog w = .ok (.bool true) w := by kernel_rfl
theorem panic_waits (w : World) : (Instr.panic (.iface 338 (.agg #[]))).run Tryz.prog w = .halt (.panic (.iface 338 (.agg #[]))) w := by kernel_rfl
section
variable {w : World} {m pr : Nat} {main past next : Value} {told steps status : Int} {once done : Bool}
set_option maxHeartbeats 1000000 in
theorem isLeft_waits {f : Fn} {x y : Array Value} (h : McAt w m pr main past told (.func f x y) once steps done status) :
    Calls Tryz.prog 105 #[ptr m] w fun e w' => e = .returned (.bool true) ∧ w' = w := by
  have c4 := h_cell h 4 rfl
  have c7 := h_cell h 7 rfl
  have q1 := fn_neq
  clear h
  go_enter Tryz.func105, Tryz.ntmps105
  go_wp2
  go_ret
  exact ⟨rfl, rfl⟩
set_option maxHeartbeats 1000000 in
theorem isLeft_goes (h : McAt w m pr main past told .nilFunc once steps done status) :
    Calls Tryz.prog 105 #[ptr m] w fun e w' => e = .returned (.bool done) ∧ w' = w := by
  have c4 := h_cell h 4 rfl
  have c7 := h_cell h 7 rfl
  have q1 := nilfn_neq
  clear h
  go_enter Tryz.func105, Tryz.ntmps105
  go_wp2
  go_ret
  exact ⟨rfl, rfl⟩
set_option maxHeartbeats 1000000 in
/-- Nothing is left to be told again. -/
theorem retold_none {x : Option Addr} {n c : Nat} (h : McAt w m pr main (.slice x n c) told next once steps done status) (hn : (n : Int) ≤ told) :
    Calls Tryz.prog 256 #[ptr m] w fun e w' => e = .returned (.pointer none) ∧ ∃ k, w' = w.drewN k := by
  have c2 := h_cell h 2 rfl
  have c3 := h_cell h 3 rfl
  clear h
  go_enter Tryz.func256, Tryz.ntmps256
  go_wp2
  go_quiet (fail)
  go_wp2
  go_ret
  exact ⟨rfl, _, rfl⟩
end
/-- What main is left by. -/
def waitsP : List PanicEntry := [{ v := .iface 338 (.agg #[]), recovered := false }]
set_option maxHeartbeats 1000000 in
set_option maxRecDepth 100000 in
/-- A new call, in a machine that is stepped by hand: it is kept, and main is left. -/
theorem ask_waits {w : World} {m pr n c : Nat} {main : Value} {x : Option Addr} {told steps status : Int} {f : Fn} {y z : Array Value} (h : McAt w m pr main (.slice x n c) told .nilFunc false steps false status) (hn : (n : Int) ≤ told) :
    Calls Tryz.prog 257 #[ptr m, .func f y z] w fun e w' => e = .panicked waitsP ∧ ∃ k, w' = (w.drewN k).setCell ⟨m, 4, none⟩ (.func f y z) := by
  have hr := retold_none h hn
  have hl : ∀ k, Calls Tryz.prog 105 #[ptr m] (w.drewN k) fun e w' => e = .returned (.bool false) ∧ w' = w.drewN k := fun k => isLeft_goes (w := w.drewN k) h
  have c4 := h_cell h 4 rfl
  have z4 := h_fz h 4
  have c5 := h_cell h 5 rfl
  have hst : ∀ k, (store ⟨m, 4, none⟩ (.func f y z)).run Tryz.prog (w.drewN k) = .ok () ((w.drewN k).setCell ⟨m, 4, none⟩ (.func f y z)) := fun k => store_fn (w := w.drewN k) f y z c4 z4
  have q1 := nilan_neq
  have q2 := panic_waits
  clear h
  go_enter Tryz.func257, Tryz.ntmps257
  go_wp2_with (go_at_call 256; refine hr.mono ?_; rintro e w' ⟨rfl, k, hw'⟩; rw [hw']; clear hw')
  go_loopw [6, 7] (fun _ _ wr => wr = w.drewN k) (fun _ _ _ => 0)
  case atStart => rfl
  case round =>
    obtain rfl := hrel
    go_wp2_with (go_at_call 105; refine (hl k).mono ?_; rintro e w' ⟨rfl, hw'⟩; rw [hw']; clear hw')
    exact ⟨rfl, rfl, k, rfl⟩

/-- A process. -/
abbrev PrAt (w : World) (p kn tb : Nat) (args env : Value) (cwd : ByteArray) (l1 l2 l3 held peak : Int) (box : Value) (kin : Nat) (isChild : Bool) (runs : Value) : Prop :=
  w.heap[p]? = some (.cells #[ptr kn, ptr tb, args, env, .string cwd, .int .i64 l1, .int .i64 l2, .int .i64 l3, .int .i64 held, .int .i64 peak, box, ptr kin, .bool isChild, runs] 88)
theorem mc_neq (a : Addr) (w : World) : (binOp .eql 86 (.pointer (some a)) (.pointer none)).run Tryz.prog w = .ok (.bool false) w := by kernel_rfl
set_option maxHeartbeats 1000000 in
set_option maxRecDepth 100000 in
theorem pask_waits {w : World} {p kn tb kin : Nat} {args env box : Value} {cwd : ByteArray} {l1 l2 l3 held peak : Int} {isChild : Bool} {m pr n c : Nat} {main : Value} {x : Option Addr} {told steps status : Int} {f : Fn} {y z : Array Value}
    (hp : PrAt w p kn tb args env cwd l1 l2 l3 held peak box kin isChild (ptr m)) (h : McAt w m pr main (.slice x n c) told .nilFunc false steps false status) (hn : (n : Int) ≤ told) :
    Calls Tryz.prog 238 #[ptr p, .func f y z] w fun e w' => e = .panicked waitsP ∧ ∃ k, w' = (w.drewN k).setCell ⟨m, 4, none⟩ (.func f y z) := by
  have ha := ask_waits (f := f) (y := y) (z := z) h hn
  have c13 := h_cell hp 13 rfl
  have q1 := mc_neq
  clear h hp
  go_enter Tryz.func238, Tryz.ntmps238
  go_wp2_with (go_at_call 257; refine ha.mono ?_; rintro e w' ⟨rfl, k, hw'⟩; rw [hw']; clear hw')
  exact ⟨rfl, rfl, k, rfl⟩

set_option maxHeartbeats 1000000 in
set_option maxRecDepth 100000 in
/-- What goOn defers, where main is left at a call: the panic is taken, who ran before runs again. -/
theorem catch_waits {w : World} {bb bm p kn tb kin : Nat} {args env box : Value} {cwd : ByteArray} {l1 l2 l3 held peak : Int} {isChild : Bool} {m : Nat} {main past before runs v0 : Value} {told steps status : Int} {once done : Bool} {f : Fn} {y z : Array Value} {T : TypeId} {older : List PanicEntry}
    (hbb : w.cell? ⟨bb, 0, none⟩ = some before) (hbm : w.cell? ⟨bm, 0, none⟩ = some (ptr m)) (hp : PrAt w p kn tb args env cwd l1 l2 l3 held peak box kin isChild runs) (h : McAt w m p main past told (.func f y z) once steps done status) (hb : before = .pointer none ∨ ∃ a, before = .pointer (some a)) :
    CallsD Tryz.prog 104 #[ptr bb, ptr bm] (.panicking ({ v := .iface T v0, recovered := false } :: older)) w fun e u' w' =>
      e = .returned (.tuple #[]) ∧ u' = .panicking ({ v := .iface T v0, recovered := true } :: older) ∧ w' = w.drew.setCell ⟨p, 13, none⟩ before := by
  have m0 := h_cell h 0 rfl
  have p13 := h_cell hp 13 rfl
  have z13 := h_fz hp 13
  refine callsD_of_wpS Tryz.func104 rfl fun c₀ cs hu => ?_
  apply wpS_seq
  refine wpS_of_wp ?_
  simp only [Tryz.ntmps104, List.size_toArray, List.length_cons, List.length_nil, Nat.reduceAdd, Nat.reduceSub, Array.replicate_succ, Array.replicate_zero, List.push_toArray, List.append_toArray, List.nil_append, List.cons_append]
  have hne : m ≠ p := h_ne h hp (by decide)
  have h2 : McAt (w.drew.setCell ⟨p, 13, none⟩ before) m p main past told (.func f y z) once steps done status := s_other (w := w.drew) h hne
  have hl := isLeft_waits h2
  have q1 := any_neq
  have hnot : ∀ (x : Bool) (w : World), (Op.unary .not (.bool x)).run Tryz.prog w = .ok (.bool (!x)) w := fun _ _ => rfl
  clear h hp h2
  rcases hb with rfl | ⟨ad, rfl⟩
  all_goals
    go_region
    simp only [Exit.thenS]
    apply wpS_seq
    apply wpS_region
    simp [wpOpsS, go_sem, recoverD, hu, q1, hbm]
    refine hl.mono ?_
    rintro e w' ⟨rfl, hw'⟩
    rw [hw']
    clear hw'
    simp only [hnot, Result.andThen_ok]
    simp [go_sem, Oper.upon, Exit.thenS]
    refine wpS_cond (t := false) (by simp [Act.eval]) ?_
    simp only [Bool.false_eq_true, if_false]
    refine wpS_of_wp (wp_skip ?_)
    exact ⟨rfl, _, rfl, .tuple #[], by simp [results, Tryz.results104], rfl, rfl, rfl⟩
end Go.Proofs.YteimilnecahifaaGreatDoor

namespace Go.Proofs.YteimilnecahifaaGreatDoor
open Go.RowKit Go.Shelf Go.Maps

/-- What the descriptors say, and how many faults are used up. -/
structure KC where
  used : Nat
  rest : List UInt8
  out : List UInt8
  err : List UInt8
/-- A call of the kernel. -/
structure KCall where
  isRead : Bool
  isErr : Bool
  most : Nat
  b : List UInt8
def KCall.read (most : Nat) : KCall := ⟨true, false, most, []⟩
def KCall.write (isErr : Bool) (b : List UInt8) : KCall := ⟨false, isErr, 0, b⟩
/-- What a call is answered: a number, bytes, an error. -/
structure KAns where
  num : Int
  bytes : List UInt8
  err : Int

def readS (l : List (Int × Int)) (k : KC) (most : Nat) : KAns × KC :=
  if (befS l k.used most).2.1 = 0 then (⟨0, k.rest.take (befS l k.used most).1.toNat, 0⟩, { k with used := (befS l k.used most).2.2, rest := k.rest.drop (befS l k.used most).1.toNat })
  else (⟨0, [], (befS l k.used most).2.1⟩, { k with used := (befS l k.used most).2.2 })
def writeS (l : List (Int × Int)) (k : KC) (isErr : Bool) (b : List UInt8) : KAns × KC :=
  if (befS l k.used b.length).2.1 = 0 then (⟨(befS l k.used b.length).1, [], 0⟩, { used := (befS l k.used b.length).2.2, rest := k.rest, out := if isErr then k.out else k.out ++ b.take (befS l k.used b.length).1.toNat, err := if isErr then k.err ++ b.take (befS l k.used b.length).1.toNat else k.err })
  else (⟨0, [], (befS l k.used b.length).2.1⟩, { k with used := (befS l k.used b.length).2.2 })
def execS (l : List (Int × Int)) (k : KC) (c : KCall) : KAns × KC := if c.isRead then readS l k c.most else writeS l k c.isErr c.b
theorem execS_write (l : List (Int × Int)) (k : KC) (e : Bool) (b : List UInt8) : execS l k (.write e b) = writeS l k e b := rfl

/-- Where all of it lies. -/
structure Gh where
  (p m kn tb so s1 s2 th fb rb an pg ab kin base : Nat)
  (tr fv main args env box ansv : Value)
  (faults : List (Int × Int))
  (now last l1 l2 l3 : Int)
  (pc : Nat)
  (cwd : ByteArray)
  (isChild : Bool)
  (first : KCall)
  (ans : KAns)

def has3 (G : Gh) : Array Value := #[iSo G.so, iSk G.s1, iSk G.s2, .nilIface, .nilIface, .nilIface, .nilIface, .nilIface, .nilIface, .nilIface, .nilIface, .nilIface, .nilIface, .nilIface, .nilIface, .nilIface]

/-- The kernel. -/
structure KI (G : Gh) (w : World) (k : KC) (rv v1 v2 : Value) : Prop where
  kn : KnAt w G.kn G.tr G.fv k.used G.now G.th G.last
  fl : Fl w G.fv G.fb G.faults
  mild : Mild G.faults
  fit : k.used ≤ G.faults.length
  tb : TbAt w G.tb G.kn (has3 G)
  so : SoAt w G.so 1 rv
  rest : ByAt w rv k.rest
  rblk : ∀ b off n c, rv = .slice (some ⟨b, off, none⟩) n c → b = G.rb
  k1 : SkAt w G.s1 1 v1
  o1 : w.ownsRow 0 5 1 v1 k.out.length (u8s k.out)
  k2 : SkAt w G.s2 1 v2
  o2 : w.ownsRow 0 5 1 v2 k.err.length (u8s k.err)
  s12 : G.s1 ≠ G.s2
  lt : G.rb < w.heap.size ∧ G.fb < w.heap.size
  v12 : ∀ b, v1.ownBlock = some b → v2.ownBlock ≠ some b
  vr : v1.ownBlock ≠ some G.rb ∧ v2.ownBlock ≠ some G.rb
  vf : v1.ownBlock ≠ some G.fb ∧ v2.ownBlock ≠ some G.fb
  fb : G.fb ≠ G.kn ∧ G.fb ≠ G.so ∧ G.fb ≠ G.s1 ∧ G.fb ≠ G.s2
  rb : G.rb ≠ G.kn ∧ G.rb ≠ G.so ∧ G.rb ≠ G.s1 ∧ G.rb ≠ G.s2
end Go.Proofs.YteimilnecahifaaGreatDoor

namespace Go.Proofs.YteimilnecahifaaGreatDoor
open Go.RowKit Go.Shelf Go.Maps

def nthS (l : List ByteArray) (j : Nat) : ByteArray := l[j]?.getD ⟨#[]⟩
/-- A slice of strings. -/
def SsAt (w : World) (v : Value) (ss : List ByteArray) : Prop :=
  (v = .slice none 0 0 ∧ ss = []) ∨ ∃ b off cap, v = .slice (some ⟨b, off, none⟩) ss.length cap ∧ (ss.length ≤ cap ∧ cap ≤ 9223372036854775807) ∧ b < w.heap.size ∧ ∀ j, j < ss.length → w.cell? ⟨b, off + j, none⟩ = some (.string (nthS ss j))
theorem SsAt.turn {w w' : World} {v : Value} {ss : List ByteArray} {S : List Nat} (h : SsAt w v ss) (hT : Turn S w w') (hS : ∀ b off n c, v = .slice (some ⟨b, off, none⟩) n c → b ∉ S) : SsAt w' v ss := by
  rcases h with h | ⟨b, off, cap, h1, h2, h3, h4⟩
  · exact .inl h
  · exact .inr ⟨b, off, cap, h1, h2, Nat.lt_of_lt_of_le h3 hT.size, fun j hj => hT.cell (h4 j hj) (hS b off _ _ h1)⟩
theorem SsAt.shape {w : World} {v : Value} {ss : List ByteArray} (h : SsAt w v ss) : ∃ a c, v = .slice a ss.length c := by
  rcases h with ⟨rfl, rfl⟩ | ⟨b, off, cap, rfl, _⟩
  · exact ⟨none, 0, rfl⟩
  · exact ⟨_, cap, rfl⟩
theorem ss_own {w : World} {base : Nat} {v : Value} {ss : List ByteArray} (h : w.ownsRow base 9 1 v ss.length (ss.map .string)) : SsAt w v ss := by
  rcases h.2 with ⟨rfl, h0⟩ | ⟨g, cap, cur, rfl, hb, hg, hle, hcap, hsz, ht⟩
  · exact .inl ⟨rfl, List.length_eq_zero_iff.1 h0⟩
  · refine .inr ⟨g, 0, cap, rfl, ⟨hle, by unfold maxLen at hcap; omega⟩, (Array.getElem?_eq_some_iff.1 hg).1, fun j hj => ?_⟩
    have e : (cur.toList.take (ss.length * 1))[j]? = (ss.map Value.string)[j]? := by rw [ht]
    rw [List.getElem?_take, if_pos (by omega), List.getElem?_map] at e
    rw [Nat.zero_add]
    simp only [World.cell?, hg]
    have e2 : cur[j]? = cur.toList[j]? := by simp
    show cur[j]? = _
    rw [e2, e, nthS]
    simp [hj]
theorem infoS : (Tryz.prog.info? 9).map (fun i => (i.zero, i.size, i.bytes)) = some (some (.string ⟨#[]⟩), 1, 16) := by kernel_rfl
theorem sclone_c (v : Value) (ss : List ByteArray) (w : World) (hl : ss.length ≤ 1048576) (h : SsAt w v ss) :
    Calls Tryz.prog 69 #[v] w fun e w' => ∃ v', e = .returned v' ∧ w'.ownsRow w.heap.size 9 1 v' ss.length (ss.map .string) ∧ Below w.heap.size w w' := by
  rcases h with ⟨rfl, rfl⟩ | ⟨b, off, cap, rfl, _, _, hc⟩
  · refine (Tryz.slices_Clone_nil_f69 0 0 w).mono ?_
    rintro e w' ⟨rfl, rfl⟩
    exact ⟨_, rfl, World.ownsRow_nil _ _ _ _, Below.refl _ _⟩
  · obtain ⟨i, hi, hz0, hz1, hz2⟩ := info_parts infoS
    refine (Tryz.slices_Clone_f69 i (.string ⟨#[]⟩) 1 16 hi hz0 hz1 hz2 rfl (by decide) Tryz.sizeOf9 b off ss.length cap (ss.map .string) w (by simp) (by unfold maxLen; omega) (by omega) (fun j u hu => ?_) (fun u hu => ?_)).mono ?_
    · have hj : j < ss.length := by have := (List.getElem?_eq_some_iff.1 hu).1; simpa using this
      rw [hc j hj, ← hu, List.getElem?_map, nthS]
      simp [hj]
    · obtain ⟨s, _, rfl⟩ := List.mem_map.1 hu; rfl
    · rintro e w' ⟨v', rfl, ho, _, hB⟩
      exact ⟨v', rfl, ho, hB⟩

abbrev nils16 : Array Value := #[.nilIface, .nilIface, .nilIface, .nilIface, .nilIface, .nilIface, .nilIface, .nilIface, .nilIface, .nilIface, .nilIface, .nilIface, .nilIface, .nilIface, .nilIface, .nilIface]
/-- The kin of a process that has none. -/
abbrev KnAt0 (w : World) (b : Nat) (picks : Value) : Prop := w.heap[b]? = some (.cells #[.slice none 0 0, .slice none 0 0, picks, .int .i64 0] 81)
end Go.Proofs.YteimilnecahifaaGreatDoor

namespace Go.Proofs.YteimilnecahifaaGreatDoor.Op
open Go.RowKit

theorem u8_beq (a b : UInt8) : ((a.toNat : Int) == (b.toNat : Int)) = decide (a = b) := by
  rw [Bool.eq_iff_iff]; simp only [beq_iff_eq, decide_eq_true_eq, ← UInt8.toNat_inj]; omega
theorem u8_lit (a : UInt8) (n : Nat) (h : n < 256) : ((a.toNat : Int) == (n : Int)) = decide (a = UInt8.ofNat n) := by
  have := u8_beq a (UInt8.ofNat n)
  rw [show (UInt8.ofNat n).toNat = n from by simp; omega] at this
  exact this
theorem u8_no {a : UInt8} (n : Nat) (h : n < 256) (hne : a ≠ UInt8.ofNat n) : ((a.toNat : Int) == (n : Int)) = false := by rw [u8_lit a n h]; simpa using hne
theorem by_drop (s : ByteArray) (k : Nat) (h : k < s.size) : s.data.toList.drop k = s[k] :: s.data.toList.drop (k + 1) := by
  rw [List.drop_eq_getElem_cons (by exact h)]; rfl
theorem by_drop_end (s : ByteArray) (k : Nat) (h : s.size ≤ k) : s.data.toList.drop k = [] := List.drop_eq_nil_of_le h
/-- Options in memory of their own. -/
abbrev OptsAt (w : World) (base : Nat) (v : Value) (l : Opts) : Prop := w.ownsRow base 280 2 v l.length (optCells l)

theorem opts_snoc {w : World} {base : Nat} {v : Value} {l : Opts} {c : UInt8} {s : ByteArray} (h : w.ownsRow base 280 2 v (l.length + 1) (optCells l ++ [.int .u8 (c.toNat : Int), .string s])) : OptsAt w base v (l ++ [(c, s)]) := by
  unfold OptsAt; rw [optCells_snoc, List.length_append]; exact h
theorem by_tail (a : ByteArray) (k : Nat) : a.extract k a.size = ⟨(a.data.toList.drop k).toArray⟩ := by
  apply ByteArray.ext
  rw [ByteArray.data_extract, ← Array.toList_inj, Array.toList_extract]
  simp only [List.extract]
  exact List.take_of_length_le (by rw [List.length_drop]; exact Nat.le_refl _)
theorem cell_two_new (w : World) (x y : Value) (T : Nat) : ∀ j u, [x, y][j]? = some u → (w.alloc (.cells #[x, y] T)).cell? ((⟨w.heap.size, 0, none⟩ : Addr).add j) = some u := by
  intro j u h
  have hh : (w.alloc (.cells #[x, y] T)).heap[w.heap.size]? = some (.cells #[x, y] T) := by show (w.heap.push _)[w.heap.size]? = _; simp
  rw [Addr.add_lit]
  simp only [World.cell?, hh]
  match j with
  | 0 => simpa using h
  | 1 => simpa using h
  | j + 2 => simp at h
theorem strs_cut {w : World} {b off cap n k : Nat} {args : List ByteArray} (hn : args.length = n) (hk : k ≤ n) (hlc : n ≤ cap) (hcap : cap ≤ 9223372036854775807) (hb : b < w.heap.size) (hc : ∀ j, j < n → w.cell? ⟨b, off + j, none⟩ = some (.string (nth args j))) : StrsAt w (.slice (some ⟨b, off + k, none⟩) (n - k) (cap - k)) (args.drop k) := by
  refine .inr ⟨b, off + k, cap - k, by rw [List.length_drop, hn], by rw [List.length_drop, hn]; omega, hb, fun j hj => ?_⟩
  rw [List.length_drop, hn] at hj
  rw [Nat.add_assoc, hc (k + j) (by omega), nth_drop]
theorem strs_end {w : World} {b off n k : Nat} {args : List ByteArray} (hn : args.length = n) (hk : n ≤ k) (hb : b < w.heap.size) : StrsAt w (.slice (some ⟨b, off, none⟩) 0 0) (args.drop k) := by
  have : args.drop k = [] := List.drop_eq_nil_of_le (by omega)
  rw [this]
  exact .inr ⟨b, off, 0, rfl, by simp, hb, fun j hj => by simp at hj⟩
end Go.Proofs.YteimilnecahifaaGreatDoor.Op

namespace Go.Proofs.YteimilnecahifaaGreatDoor.Op
open Go.RowKit

end Go.Proofs.YteimilnecahifaaGreatDoor.Op

namespace Go.Proofs.YteimilnecahifaaGreatDoor.Op
open Go.RowKit

def codeOf (r : Option (Opts × List ByteArray)) : Int := match r with | none => 19 | some _ => 0
def optsOf (r : Option (Opts × List ByteArray)) : Opts := match r with | none => [] | some p => p.1
def restOf (r : Option (Opts × List ByteArray)) : List ByteArray := match r with | none => [] | some p => p.2

/-- Strings in memory of their own, or none. -/
def RestAt (w : World) (base : Nat) (v : Value) (o : List ByteArray) : Prop := StrsAt w v o ∧ (o = [] ∨ w.ownsRow base 9 1 v o.length (o.map .string))
/-- What the program's Parse is to answer. -/
def ToldC (w : World) (r : Option (Opts × List ByteArray)) (e : Ending) (w' : World) : Prop :=
  ∃ lv ov, e = .returned (.tuple #[lv, ov, .int .i64 (codeOf r)]) ∧ OptsAt w' w.heap.size lv (optsOf r) ∧ RestAt w' w.heap.size ov (restOf r)

theorem own_below {w w' : World} {base e s n : Nat} {v : Value} {xs : List Value} (h : w.ownsRow base e s v n xs) (hb : Below w.heap.size w w') : w'.ownsRow base e s v n xs := by
  refine ⟨h.1, ?_⟩
  rcases h.2 with h | ⟨g, cap, cur, h1, h2, h3, h4⟩
  · exact .inl h
  · exact .inr ⟨g, cap, cur, h1, h2, (hb.block g (Array.getElem?_eq_some_iff.1 h3).1).trans h3, h4⟩
theorem RestAt.below {w w' : World} {base : Nat} {v : Value} {o : List ByteArray} (h : RestAt w base v o) (hb : Below w.heap.size w w') : RestAt w' base v o :=
  ⟨h.1.below hb, h.2.imp id fun h => own_below h hb⟩
theorem strs_own {w : World} {base : Nat} {v : Value} {o : List ByteArray} (h : w.ownsRow base 9 1 v o.length (o.map .string)) : StrsAt w v o := by
  rcases h.2 with ⟨rfl, h0⟩ | ⟨g, cap, cur, rfl, hb, hg, hle, hcap, hsz, ht⟩
  · exact .inl ⟨rfl, List.length_eq_zero_iff.1 h0⟩
  · refine .inr ⟨g, 0, cap, rfl, ⟨hle, by unfold maxLen at hcap; exact hcap⟩, (Array.getElem?_eq_some_iff.1 hg).1, fun j hj => ?_⟩
    have := own_cell2 h j (by omega)
    rw [Nat.zero_add, this, List.getElem?_map, nth]
    simp [hj]

theorem strs_one (l : List ByteArray) : ∀ u ∈ l.map Value.string, u.oneCell' = true := by
  intro u hu; obtain ⟨s, _, rfl⟩ := List.mem_map.1 hu; rfl
theorem strs_news {w : World} {b off n : Nat} {args : List ByteArray} (hc : ∀ j, j < n → w.cell? ⟨b, off + j, none⟩ = some (.string (nth args j))) (hn : args.length = n) : ∀ j u, (args.map Value.string)[j]? = some u → w.cell? ((⟨b, off, none⟩ : Addr).add j) = some u := by
  intro j u hu
  have hj : j < args.length := by have := (List.getElem?_eq_some_iff.1 hu).1; simpa using this
  rw [Addr.add_lit, hc j (by omega), ← hu, List.getElem?_map, nth]
  simp [hj]
/-- The world behind the two answers, from the world w2 in which 'own' lies. -/
structure Mid (w2 w' : World) (la lb va vb : Value) (l : Opts) (o : List ByteArray) : Prop where
  a : ∃ base, OptsAt w' base la l
  b : ∃ base, OptsAt w' base lb l
  c : RestAt w' w2.heap.size va o
  d : StrsAt w' vb o
  bl : Below w2.heap.size w2 w'
theorem Mid.below {w2 w' w'' : World} {la lb va vb : Value} {l : Opts} {o : List ByteArray} (h : Mid w2 w' la lb va vb l o) (hb : Below w'.heap.size w' w'') : Mid w2 w'' la lb va vb l o :=
  ⟨let ⟨x, hx⟩ := h.a; ⟨x, own_below hx hb⟩, let ⟨x, hx⟩ := h.b; ⟨x, own_below hx hb⟩, h.c.below hb, h.d.below hb, h.bl.trans (hb.mono h.bl.size)⟩
end Go.Proofs.YteimilnecahifaaGreatDoor.Op

namespace Go.Proofs.YteimilnecahifaaGreatDoor.Op
open Go.RowKit

theorem parseS_to {spec : ByteArray} {l : Opts} {a : ByteArray} {rest : List ByteArray} {p : Opts × List ByteArray} (h : a ≠ dashes) (h2 : ¬ (a.size < 2 ∨ a.data.toList.head? ≠ some 45)) (hg : groupS spec l (a.data.toList.drop 1) rest = some p) : parseS spec l (a :: rest) = parseS spec p.1 p.2 := by rw [parseS_go _ _ _ _ h h2, hg]; rfl
end Go.Proofs.YteimilnecahifaaGreatDoor.Op

namespace Go.Proofs.YteimilnecahifaaGreatDoor.Op

def spec7 : ByteArray := ⟨#[97, 98, 99, 110, 58, 109, 58]⟩
def dash (c : UInt8) : ByteArray := ⟨#[45, c]⟩
def alone (g : List UInt8) : Opts := g.map fun c => (c, ⟨#[]⟩)
def IsAbc (c : UInt8) : Prop := c = 97 ∨ c = 98 ∨ c = 99

theorem kind_abc {c : UInt8} (h : IsAbc c) : kindS spec7 c = 1 := by rcases h with rfl | rfl | rfl <;> decide
theorem kind_nm {c : UInt8} (h : c = 110 ∨ c = 109) : kindS spec7 c = 2 := by rcases h with rfl | rfl <;> decide
theorem dash_ne {c : UInt8} (h : c ≠ 45) : dash c ≠ dashes := by
  intro e
  have : #[45, c] = #[45, 45] := congrArg ByteArray.data e
  simp at this
  exact h this
theorem dash_is (c : UInt8) : ¬ ((dash c).size < 2 ∨ (dash c).data.toList.head? ≠ some 45) := by
  intro h
  rcases h with h | h
  · exact absurd h (by show ¬ (2 < 2); omega)
  · exact h rfl
theorem parse_alone {c : UInt8} (h : IsAbc c) (l : Opts) (rest : List ByteArray) : parseS spec7 l (dash c :: rest) = parseS spec7 (l ++ [(c, ⟨#[]⟩)]) rest := by
  refine parseS_to (p := (l ++ [(c, ⟨#[]⟩)], rest)) (dash_ne (by rcases h with rfl | rfl | rfl <;> decide)) (dash_is c) ?_
  show groupS spec7 l [c] rest = _
  rw [groupS, if_neg (by rw [kind_abc h]; decide), if_pos (kind_abc h), groupS]
theorem parse_arg {c : UInt8} (h : c = 110 ∨ c = 109) (l : Opts) (s : ByteArray) (rest : List ByteArray) : parseS spec7 l (dash c :: s :: rest) = parseS spec7 (l ++ [(c, s)]) rest := by
  refine parseS_to (p := (l ++ [(c, s)], rest)) (dash_ne (by rcases h with rfl | rfl <;> decide)) (dash_is c) ?_
  show groupS spec7 l [c] (s :: rest) = _
  rw [groupS, if_neg (by rw [kind_nm h]; decide), if_neg (by rw [kind_nm h]; decide), if_neg (by simp), nextS]
theorem tot_append (a b : List ByteArray) : tot (a ++ b) = tot a + tot b := by simp [tot]
theorem tot_take (l : List ByteArray) (n : Nat) (h : n < l.length) : tot (l.take (n + 1)) = tot (l.take n) + (nth l n).size := by
  rw [List.take_succ_eq_append_getElem h, tot_append]; simp [tot, nth, h]
/-- What the letters come to: options apart, those of them that stand in a group, what is told of them, how many arguments were used. -/
structure Built (args ap : List ByteArray) (g : List UInt8) (wn : Opts) (n : Nat) : Prop where
  parse : ∀ (l : Opts) (rest : List ByteArray), parseS spec7 l (ap ++ rest) = parseS spec7 (l ++ wn) rest
  abc : ∀ c ∈ g, IsAbc c
  zero : n = 0 → wn = alone g
  size : ap.length ≤ 2 * wn.length ∧ tot ap ≤ 2 * wn.length + tot (args.take n) ∧ n ≤ args.length ∧ g.length ≤ wn.length
theorem Built.nil (args : List ByteArray) : Built args [] [] [] 0 := ⟨fun l rest => by rw [List.nil_append, List.append_nil], fun c hc => (by cases hc), fun _ => rfl, by simp [tot]⟩
theorem Built.alone {args ap : List ByteArray} {g : List UInt8} {wn : Opts} {n : Nat} (c : UInt8) (hc : IsAbc c) (h : Built args ap g wn n) : Built args (ap ++ [dash c]) (g ++ [c]) (wn ++ [(c, ⟨#[]⟩)]) n := by
  refine ⟨fun l rest => ?_, fun d hd => ?_, fun hn => ?_, ?_⟩
  · rw [List.append_assoc, h.parse, List.singleton_append, parse_alone hc, List.append_assoc]
  · rcases List.mem_append.1 hd with hd | hd
    · exact h.abc d hd
    · rw [List.mem_singleton.1 hd]; exact hc
  · rw [h.zero hn]; simp [Go.Proofs.YteimilnecahifaaGreatDoor.Op.alone]
  · have ih := h.size
    have e : (dash c).size = 2 := rfl
    rw [tot_append, List.length_append, List.length_append, List.length_append]
    simp only [List.length_singleton, tot_cons, e, show tot [] = 0 from rfl]; omega
theorem Built.arg {args ap : List ByteArray} {g : List UInt8} {wn : Opts} {n : Nat} (c : UInt8) (hc : c = 110 ∨ c = 109) (hn : n < args.length) (h : Built args ap g wn n) : Built args (ap ++ [dash c, nth args n]) g (wn ++ [(c, nth args n)]) (n + 1) := by
  refine ⟨fun l rest => ?_, h.abc, fun hn => by omega, ?_⟩
  · rw [List.append_assoc, h.parse, List.cons_append, List.singleton_append, parse_arg hc, List.append_assoc]
  · have ih := h.size
    have e : (dash c).size = 2 := rfl
    rw [tot_append, List.length_append, List.length_append, tot_take _ _ hn]
    simp only [List.length_cons, List.length_nil, tot_cons, e, show tot [] = 0 from rfl]; omega
end Go.Proofs.YteimilnecahifaaGreatDoor.Op

namespace Go.Proofs.YteimilnecahifaaGreatDoor.Op
open Go.RowKit

theorem run_append_none (ty : TypeId) (b : Option Addr) (n cap : Nat) (h : n ≤ cap) (w : World) : (Builtin.append_ #[32, 32] ty #[.slice b n cap, .slice none 0 0]).run Tryz.prog w = .ok (.slice b n cap) w := by
  have z := Tryz.sizeOf9
  cases b with
  | none => simp [Builtin.append_, go_sem, z, Builtin.lenOf, Builtin.firstCells, h]
  | some a => simp [Builtin.append_, go_sem, z, Builtin.lenOf, Builtin.firstCells, h, storeCells]
/-- Strings onto strings of one's own. -/
theorem wpList_append_strs {w : World} {ops : Array Oper} {rest : List Oper} {o : Oper} {a : Act} {Q : Exit → Act → World → Prop} (hgd : o.guard = none) (s x : Operand)
    (ho : o.op = .call { callee := .builtin .append, args := #[s, x], argTypes := #[32, 32] }) (base : Nat) (v : Value) (n : Nat) (xs : List Value) (hs : a.eval s = v) (hown : w.ownsRow base 9 1 v n xs)
    (vo : Value) (l : List ByteArray) (hx : a.eval x = vo) (hl : StrsAt w vo l) (hb1 : n + l.length ≤ 2097152) (hbase : base ≤ w.heap.size)
    (h : ∀ v' w', w'.ownsRow base 9 1 v' (n + l.length) (xs ++ l.map .string) → w.grownBy w' v.ownBlock → wpList Tryz.prog ops Q rest (a.put o.dst v') w') : wpList Tryz.prog ops Q (o :: rest) a w := by
  obtain ⟨j0, ji, jz0, jz1, jz2⟩ := info_parts2 info_str
  rcases hl with ⟨rfl, rfl⟩ | ⟨b, off, cap, rfl, hcap, hb, hc⟩
  · refine wpList_plain hgd fun _ hK => ?_
    have hsl : ∃ b cap, v = .slice b n cap ∧ n ≤ cap := by
      rcases hown.2 with ⟨rfl, rfl⟩ | ⟨g, cap, cur, rfl, _, _, hle, _⟩
      · exact ⟨none, 0, rfl, Nat.le_refl _⟩
      · exact ⟨_, cap, rfl, hle⟩
    obtain ⟨b, cap, rfl, hle⟩ := hsl
    unfold Oper.wp execOp
    simp only [ho, resolve, invoke, builtin, Sem.run_bind, Sem.run_pure, Result.andThen_ok, List.map_toArray, List.map_cons, List.map_nil, hs, hx, run_append_none _ b n cap hle w]
    exact hK _ _ (h _ w (by simpa using hown) ⟨rfl, rfl, rfl, Nat.le_refl _, fun _ _ _ => rfl⟩)
  · exact wpList_append_own w hgd s x 32 ho base 9 j0 (.string ⟨#[]⟩) 1 16 Tryz.underlying32 ji jz0 jz1 jz2 rfl (by decide) v n xs hs hown ⟨b, off, none⟩ l.length cap (l.map .string) hx (by rw [List.length_map, Nat.mul_one]) (strs_news hc rfl) (strs_one l) (by unfold maxLen; omega) (by omega) hbase (fun v' w' h1 h2 _ => h v' w' h1 h2)
end Go.Proofs.YteimilnecahifaaGreatDoor.Op

namespace Go.Proofs.YteimilnecahifaaGreatDoor.Op
open Go.RowKit Go.Maps

/-- An element is told as the value that it is. -/
def Rh (v : Value) : Option (DataW Value × List MemPlace) := some (.held v, [])
def KeyB (c : UInt8) : Lit := .int .u8 (c.toNat : Int)
theorem keyB_inj {c d : UInt8} (h : KeyB c = KeyB d) : c = d := by
  have : (c.toNat : Int) = (d.toNat : Int) := by simpa [KeyB] using h
  exact UInt8.toNat_inj.1 (by omega)
theorem keyB_wf (c : UInt8) : (KeyB c).wf = true := by
  have := c.toNat_lt
  simp [KeyB, Lit.wf, IntKind.min, IntKind.max, IntKind.signed, IntKind.bits]; omega
theorem keyedB : Keyed Tryz.prog 5 := int_keyed Tryz.underlying5
theorem keyB_key (c : UInt8) : WideAt.IsKeyLit (KeyB c) := by simp [WideAt.IsKeyLit, KeyB]

/-- A map of at most n entries, that holds for a byte what f tells. -/
def MapAt (w : World) (b n : Nat) (f : UInt8 → Option Value) : Prop :=
  ∃ D : DataW Value, w.ownsMap Tryz.prog 5 Rh b n D ∧ IsMap D ∧ ∀ c, Maps.has D (KeyB c) = (f c).isSome ∧ ∀ z, D.atKey (KeyB c) (.held z) = .held ((f c).getD z)
theorem MapAt.made (w : World) : MapAt (w.alloc (.map #[] 0)) w.heap.size 0 (fun _ => none) :=
  ⟨_, World.ownsMap_made w Tryz.prog 5 Rh, isMap_empty, fun c => ⟨rfl, fun z => by simp [DataW.atKey]⟩⟩
theorem MapAt.kept {w w' : World} {b n : Nat} {f : UInt8 → Option Value} {row : Option Nat} (h : MapAt w b n f) (hg : w.grownBy w' row) (hne : some b ≠ row) : MapAt w' b n f :=
  let ⟨D, h1, h2⟩ := h; ⟨D, h1.kept hg hne, h2⟩
theorem MapAt.lt {w : World} {b n : Nat} {f : UInt8 → Option Value} (h : MapAt w b n f) : b < w.heap.size := let ⟨_, h1, _⟩ := h; h1.lt
theorem MapAt.below {w w' : World} {b n : Nat} {f : UInt8 → Option Value} (h : MapAt w b n f) (hb : Below w.heap.size w w') : MapAt w' b n f :=
  h.kept (row := none) ⟨hb.os, hb.tape, hb.output, hb.size, fun k hk _ => hb.block k hk⟩ (by simp)
/-- 'v, ok := m[c]'. -/
theorem MapAt.look {w : World} {b n : Nat} {f : UInt8 → Option Value} (h : MapAt w b n f) {t e : TypeId} (ht : Tryz.prog.underlying t = some (.map 5 e)) {z : Value} (hz : (zeroValue e).run Tryz.prog w = .ok z w) (c : UInt8) :
    (Instr.lookup t (.map (some b)) (.int .u8 (c.toNat : Int)) true).run Tryz.prog w = .ok (.tuple #[(f c).getD z, .bool (f c).isSome]) w := by
  obtain ⟨D, h1, _, h3⟩ := h
  obtain ⟨v, ps, hr, hv⟩ := h1.look_ok keyedB ht hz (zd := .held z) (zp := []) rfl (keyOf_int_mk Tryz.underlying5 (keyB_wf c))
  rw [show (Lit.int .u8 (c.toNat : Int)) = KeyB c from rfl, (h3 c).2 z] at hv
  have e1 : v = (f c).getD z := by
    simp only [Rh, Option.some.injEq, Prod.mk.injEq, DataW.held.injEq] at hv; exact hv.1
  rw [hr, e1, show (Lit.int .u8 (c.toNat : Int)) = KeyB c from rfl, (h3 c).1]
/-- 'm[c]'. -/
theorem MapAt.look1 {w : World} {b n : Nat} {f : UInt8 → Option Value} (h : MapAt w b n f) {t e : TypeId} (ht : Tryz.prog.underlying t = some (.map 5 e)) {z : Value} (hz : (zeroValue e).run Tryz.prog w = .ok z w) (c : UInt8) :
    (Instr.lookup t (.map (some b)) (.int .u8 (c.toNat : Int)) false).run Tryz.prog w = .ok ((f c).getD z) w := by
  obtain ⟨D, h1, _, h3⟩ := h
  obtain ⟨v, ps, hr, hv⟩ := h1.lookup keyedB ht hz (zd := .held z) (zp := []) rfl (keyOf_int_mk Tryz.underlying5 (keyB_wf c))
  rw [show (Lit.int .u8 (c.toNat : Int)) = KeyB c from rfl, (h3 c).2 z] at hv
  have e1 : v = (f c).getD z := by
    simp only [Rh, Option.some.injEq, Prod.mk.injEq, DataW.held.injEq] at hv; exact hv.1
  rw [hr, e1]
/-- 'm[c] = v'. -/
theorem MapAt.put {w : World} {b n : Nat} {f : UInt8 → Option Value} (h : MapAt w b n f) {t e : TypeId} (ht : Tryz.prog.underlying t = some (.map 5 e)) (hn : n < maxLen) (c : UInt8) (v : Value) :
    ∃ w', (Instr.mapUpdate t (.map (some b)) (.int .u8 (c.toNat : Int)) v).run Tryz.prog w = .ok () w' ∧ MapAt w' b (n + 1) (fun d => if d = c then some v else f d) ∧ w.grownBy w' (some b) := by
  obtain ⟨D, h1, h2, h3⟩ := h
  obtain ⟨w', hr, ho, hg⟩ := h1.update keyedB ht hn (key := .int .u8 (c.toNat : Int)) (val := v) (d := .held v) (ps := []) (keyOf_int_mk Tryz.underlying5 (keyB_wf c)) rfl
  refine ⟨w', hr, ⟨_, ho, ho.isMap, fun d => ?_⟩, hg⟩
  rw [show (Lit.int .u8 (c.toNat : Int)) = KeyB c from rfl]
  by_cases hd : d = c
  · subst hd
    rw [has_put_same h2 (keyB_key d)]
    refine ⟨by simp, fun z => ?_⟩
    rw [atKey_put_same h2 (keyB_key d)]; simp
  · have hne : KeyB d ≠ KeyB c := fun e => hd (keyB_inj e)
    simp only [has_put_other hne, if_neg hd]
    exact ⟨(h3 d).1, fun z => by rw [atKey_put_other hne]; exact (h3 d).2 z⟩
end Go.Proofs.YteimilnecahifaaGreatDoor.Op
