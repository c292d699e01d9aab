/- Machines: how one lies in memory; the call at which main waits. -/
import Derived.Recover
import Derived.Defers
import Derived.Test.YtfkoehfkiommpaaGreatDoorKMay
import Derived.Test.YtfkoehfkiommpaaGreatDoorMSink
namespace Go.Proofs.YtfkoehfkiommpaaGreatDoor
open Go.RowKit Go.Maps

/-- A machine. -/
abbrev McAt (w : World) (m pr : Nat) (main past : Value) (told : Int) (next : Value) (once : Bool) (steps : Int) (done : Bool) (status : Int) : Prop :=
  w.heap[m]? = some (.cells #[ptr pr, main, past, .int .i64 told, next, .bool once, .int .i64 steps, .bool done, .int .i64 status] 136)

theorem fn_neq (f : Fn) (x y : Array Value) (w : World) : (binOp .neq 134 (.func f x y) .nilFunc).run Tryz.prog w = .ok (.bool true) w := by kernel_rfl
theorem nilfn_neq (w : World) : (binOp .neq 134 .nilFunc .nilFunc).run Tryz.prog w = .ok (.bool false) w := by kernel_rfl
theorem nilan_neq (w : World) : (binOp .neq 186 (.pointer none) (.pointer none)).run Tryz.prog w = .ok (.bool false) w := by kernel_rfl

theorem store_fn {w : World} {a : Addr} {v0 : Value} (f : Fn) (y z : Array Value) (hc : w.cell? a = some v0) (hz : w.frozen? a = false) : (store a (.func f y z)).run Tryz.prog w = .ok () (w.setCell a (.func f y z)) := by simp [store, Sem.run, hc, hz]
theorem any_neq (T : TypeId) (v : Value) (w : World) : (binOp .neq 20 (.iface T v) .nilIface).run Tryz.prog w = .ok (.bool true) w := by kernel_rfl
theorem panic_waits (w : World) : (Instr.panic (.iface 376 (.agg #[]))).run Tryz.prog w = .halt (.panic (.iface 376 (.agg #[]))) w := by kernel_rfl
section
variable {w : World} {m pr : Nat} {main past next : Value} {told steps status : Int} {once done : Bool}
set_option maxHeartbeats 1000000 in
theorem isLeft_waits {f : Fn} {x y : Array Value} (h : McAt w m pr main past told (.func f x y) once steps done status) :
    Calls Tryz.prog 135 #[ptr m] w fun e w' => e = .returned (.bool true) ∧ w' = w := by
  have c4 := h_cell h 4 rfl
  have c7 := h_cell h 7 rfl
  have q1 := fn_neq
  clear h
  go_enter Tryz.func135, Tryz.ntmps135
  go_wp2
  go_ret
  exact ⟨rfl, rfl⟩
set_option maxHeartbeats 1000000 in
theorem isLeft_goes (h : McAt w m pr main past told .nilFunc once steps done status) :
    Calls Tryz.prog 135 #[ptr m] w fun e w' => e = .returned (.bool done) ∧ w' = w := by
  have c4 := h_cell h 4 rfl
  have c7 := h_cell h 7 rfl
  have q1 := nilfn_neq
  clear h
  go_enter Tryz.func135, Tryz.ntmps135
  go_wp2
  go_ret
  exact ⟨rfl, rfl⟩
set_option maxHeartbeats 1000000 in
/-- Nothing is left to be told again. -/
theorem retold_none {x : Option Addr} {n c : Nat} (h : McAt w m pr main (.slice x n c) told next once steps done status) (hn : (n : Int) ≤ told) :
    Calls Tryz.prog 287 #[ptr m] w fun e w' => e = .returned (.pointer none) ∧ ∃ k, w' = w.drewN k := by
  have c2 := h_cell h 2 rfl
  have c3 := h_cell h 3 rfl
  clear h
  go_enter Tryz.func287, Tryz.ntmps287
  go_wp2
  go_quiet (fail)
  go_wp2
  go_ret
  exact ⟨rfl, _, rfl⟩
end
/-- What main is left by. -/
def waitsP : List PanicEntry := [{ v := .iface 376 (.agg #[]), recovered := false }]
set_option maxHeartbeats 1000000 in
set_option maxRecDepth 100000 in
/-- A new call, in a machine that is stepped by hand: it is kept, and main is left. -/
theorem ask_waits {w : World} {m pr n c : Nat} {main : Value} {x : Option Addr} {told steps status : Int} {f : Fn} {y z : Array Value} (h : McAt w m pr main (.slice x n c) told .nilFunc false steps false status) (hn : (n : Int) ≤ told) :
    Calls Tryz.prog 288 #[ptr m, .func f y z] w fun e w' => e = .panicked waitsP ∧ ∃ k, w' = (w.drewN k).setCell ⟨m, 4, none⟩ (.func f y z) := by
  have hr := retold_none h hn
  have hl : ∀ k, Calls Tryz.prog 135 #[ptr m] (w.drewN k) fun e w' => e = .returned (.bool false) ∧ w' = w.drewN k := fun k => isLeft_goes (w := w.drewN k) h
  have c4 := h_cell h 4 rfl
  have z4 := h_fz h 4
  have c5 := h_cell h 5 rfl
  have hst : ∀ k, (store ⟨m, 4, none⟩ (.func f y z)).run Tryz.prog (w.drewN k) = .ok () ((w.drewN k).setCell ⟨m, 4, none⟩ (.func f y z)) := fun k => store_fn (w := w.drewN k) f y z c4 z4
  have q1 := nilan_neq
  have q2 := panic_waits
  clear h
  go_enter Tryz.func288, Tryz.ntmps288
  go_wp2_with (go_at_call 287; refine hr.mono ?_; rintro e w' ⟨rfl, k, hw'⟩; rw [hw']; clear hw')
  go_loopw [6, 7] (fun _ _ wr => wr = w.drewN k) (fun _ _ _ => 0)
  case atStart => rfl
  case round =>
    obtain rfl := hrel
    go_wp2_with (go_at_call 135; refine (hl k).mono ?_; rintro e w' ⟨rfl, hw'⟩; rw [hw']; clear hw')
    exact ⟨rfl, rfl, k, rfl⟩

/-- A process. -/
abbrev PrAt (w : World) (p kn tb : Nat) (args env : Value) (cwd : ByteArray) (l1 l2 l3 held peak : Int) (box : Value) (kin : Nat) (isChild : Bool) (runs : Value) : Prop :=
  w.heap[p]? = some (.cells #[ptr kn, ptr tb, args, env, .string cwd, .int .i64 l1, .int .i64 l2, .int .i64 l3, .int .i64 held, .int .i64 peak, box, ptr kin, .bool isChild, runs] 127)
theorem mc_neq (a : Addr) (w : World) : (binOp .eql 125 (.pointer (some a)) (.pointer none)).run Tryz.prog w = .ok (.bool false) w := by kernel_rfl
set_option maxHeartbeats 1000000 in
set_option maxRecDepth 100000 in
theorem pask_waits {w : World} {p kn tb kin : Nat} {args env box : Value} {cwd : ByteArray} {l1 l2 l3 held peak : Int} {isChild : Bool} {m pr n c : Nat} {main : Value} {x : Option Addr} {told steps status : Int} {f : Fn} {y z : Array Value}
    (hp : PrAt w p kn tb args env cwd l1 l2 l3 held peak box kin isChild (ptr m)) (h : McAt w m pr main (.slice x n c) told .nilFunc false steps false status) (hn : (n : Int) ≤ told) :
    Calls Tryz.prog 265 #[ptr p, .func f y z] w fun e w' => e = .panicked waitsP ∧ ∃ k, w' = (w.drewN k).setCell ⟨m, 4, none⟩ (.func f y z) := by
  have ha := ask_waits (f := f) (y := y) (z := z) h hn
  have c13 := h_cell hp 13 rfl
  have q1 := mc_neq
  clear h hp
  go_enter Tryz.func265, Tryz.ntmps265
  go_wp2_with (go_at_call 288; refine ha.mono ?_; rintro e w' ⟨rfl, k, hw'⟩; rw [hw']; clear hw')
  exact ⟨rfl, rfl, k, rfl⟩

set_option maxHeartbeats 1000000 in
set_option maxRecDepth 100000 in
/-- What goOn defers, where main is left at a call: the panic is taken, who ran before runs again. -/
theorem catch_waits {w : World} {bb bm p kn tb kin : Nat} {args env box : Value} {cwd : ByteArray} {l1 l2 l3 held peak : Int} {isChild : Bool} {m : Nat} {main past before runs v0 : Value} {told steps status : Int} {once done : Bool} {f : Fn} {y z : Array Value} {T : TypeId} {older : List PanicEntry}
    (hbb : w.cell? ⟨bb, 0, none⟩ = some before) (hbm : w.cell? ⟨bm, 0, none⟩ = some (ptr m)) (hp : PrAt w p kn tb args env cwd l1 l2 l3 held peak box kin isChild runs) (h : McAt w m p main past told (.func f y z) once steps done status) (hb : before = .pointer none ∨ ∃ a, before = .pointer (some a)) :
    CallsD Tryz.prog 134 #[ptr bb, ptr bm] (.panicking ({ v := .iface T v0, recovered := false } :: older)) w fun e u' w' =>
      e = .returned (.tuple #[]) ∧ u' = .panicking ({ v := .iface T v0, recovered := true } :: older) ∧ w' = w.drew.setCell ⟨p, 13, none⟩ before := by
  have m0 := h_cell h 0 rfl
  have p13 := h_cell hp 13 rfl
  have z13 := h_fz hp 13
  refine callsD_of_wpS Tryz.func134 rfl fun c₀ cs hu => ?_
  apply wpS_seq
  refine wpS_of_wp ?_
  simp only [Tryz.ntmps134, List.size_toArray, List.length_cons, List.length_nil, Nat.reduceAdd, Nat.reduceSub, Array.replicate_succ, Array.replicate_zero, List.push_toArray, List.append_toArray, List.nil_append, List.cons_append]
  have hne : m ≠ p := h_ne h hp (by decide)
  have h2 : McAt (w.drew.setCell ⟨p, 13, none⟩ before) m p main past told (.func f y z) once steps done status := s_other (w := w.drew) h hne
  have hl := isLeft_waits h2
  have q1 := any_neq
  have hnot : ∀ (x : Bool) (w : World), (Op.unary .not (.bool x)).run Tryz.prog w = .ok (.bool (!x)) w := fun _ _ => rfl
  clear h hp h2
  rcases hb with rfl | ⟨ad, rfl⟩
  all_goals
    go_region
    simp only [Exit.thenS]
    apply wpS_seq
    apply wpS_region
    simp [wpOpsS, go_sem, recoverD, hu, q1, hbm]
    refine hl.mono ?_
    rintro e w' ⟨rfl, hw'⟩
    rw [hw']
    clear hw'
    simp only [hnot, Result.andThen_ok]
    simp [go_sem, Oper.upon, Exit.thenS]
    refine wpS_cond (t := false) (by simp [Act.eval]) ?_
    simp only [Bool.false_eq_true, if_false]
    refine wpS_of_wp (wp_skip ?_)
    exact ⟨rfl, _, rfl, .tuple #[], by simp [results, Tryz.results134], rfl, rfl, rfl⟩
end Go.Proofs.YtfkoehfkiommpaaGreatDoor

namespace Go.Proofs.YtfkoehfkiommpaaGreatDoor
open Go.RowKit Go.Shelf Go.Maps

/-- What the descriptors say, and how many faults are used up. -/
structure KC where
  used : Nat
  rest : List UInt8
  out : List UInt8
  err : List UInt8
/-- A call of the kernel. -/
structure KCall where
  isRead : Bool
  isErr : Bool
  most : Nat
  b : List UInt8
def KCall.read (most : Nat) : KCall := ⟨true, false, most, []⟩
def KCall.write (isErr : Bool) (b : List UInt8) : KCall := ⟨false, isErr, 0, b⟩
/-- What a call is answered: a number, bytes, an error. -/
structure KAns where
  num : Int
  bytes : List UInt8
  err : Int

def readS (l : List (Int × Int)) (k : KC) (most : Nat) : KAns × KC :=
  if (befS l k.used most).2.1 = 0 then (⟨0, k.rest.take (befS l k.used most).1.toNat, 0⟩, { k with used := (befS l k.used most).2.2, rest := k.rest.drop (befS l k.used most).1.toNat })
  else (⟨0, [], (befS l k.used most).2.1⟩, { k with used := (befS l k.used most).2.2 })
def writeS (l : List (Int × Int)) (k : KC) (isErr : Bool) (b : List UInt8) : KAns × KC :=
  if (befS l k.used b.length).2.1 = 0 then (⟨(befS l k.used b.length).1, [], 0⟩, { used := (befS l k.used b.length).2.2, rest := k.rest, out := if isErr then k.out else k.out ++ b.take (befS l k.used b.length).1.toNat, err := if isErr then k.err ++ b.take (befS l k.used b.length).1.toNat else k.err })
  else (⟨0, [], (befS l k.used b.length).2.1⟩, { k with used := (befS l k.used b.length).2.2 })
def execS (l : List (Int × Int)) (k : KC) (c : KCall) : KAns × KC := if c.isRead then readS l k c.most else writeS l k c.isErr c.b
theorem execS_read (l : List (Int × Int)) (k : KC) (m : Nat) : execS l k (.read m) = readS l k m := rfl
theorem execS_write (l : List (Int × Int)) (k : KC) (e : Bool) (b : List UInt8) : execS l k (.write e b) = writeS l k e b := rfl

/-- Where all of it lies. -/
structure Gh where
  (p m kn tb so s1 s2 th fb rb an pg ab kin base : Nat)
  (tr fv main args env box ansv : Value)
  (faults : List (Int × Int))
  (now last l1 l2 l3 : Int)
  (pc : Nat)
  (cwd : ByteArray)
  (isChild : Bool)
  (first : KCall)
  (ans : KAns)

def has3 (G : Gh) : Array Value := #[iSo G.so, iSk G.s1, iSk G.s2, .nilIface, .nilIface, .nilIface, .nilIface, .nilIface, .nilIface, .nilIface, .nilIface, .nilIface, .nilIface, .nilIface, .nilIface, .nilIface]

/-- The kernel. -/
structure KI (G : Gh) (w : World) (k : KC) (rv v1 v2 : Value) : Prop where
  kn : KnAt w G.kn G.tr G.fv k.used G.now G.th G.last
  fl : Fl w G.fv G.fb G.faults
  mild : Mild G.faults
  fit : k.used ≤ G.faults.length
  tb : TbAt w G.tb G.kn (has3 G)
  so : SoAt w G.so 1 rv
  rest : ByAt w rv k.rest
  rblk : ∀ b off n c, rv = .slice (some ⟨b, off, none⟩) n c → b = G.rb
  k1 : SkAt w G.s1 1 v1
  o1 : w.ownsRow 0 5 1 v1 k.out.length (u8s k.out)
  k2 : SkAt w G.s2 1 v2
  o2 : w.ownsRow 0 5 1 v2 k.err.length (u8s k.err)
  s12 : G.s1 ≠ G.s2
  lt : G.rb < w.heap.size ∧ G.fb < w.heap.size
  v12 : ∀ b, v1.ownBlock = some b → v2.ownBlock ≠ some b
  vr : v1.ownBlock ≠ some G.rb ∧ v2.ownBlock ≠ some G.rb
  vf : v1.ownBlock ≠ some G.fb ∧ v2.ownBlock ≠ some G.fb
  fb : G.fb ≠ G.kn ∧ G.fb ≠ G.so ∧ G.fb ≠ G.s1 ∧ G.fb ≠ G.s2
  rb : G.rb ≠ G.kn ∧ G.rb ≠ G.so ∧ G.rb ≠ G.s1 ∧ G.rb ≠ G.s2
end Go.Proofs.YtfkoehfkiommpaaGreatDoor

namespace Go.Proofs.YtfkoehfkiommpaaGreatDoor
open Go.RowKit Go.Shelf Go.Maps

def nthS (l : List ByteArray) (j : Nat) : ByteArray := l[j]?.getD ⟨#[]⟩
/-- A slice of strings. -/
def SsAt (w : World) (v : Value) (ss : List ByteArray) : Prop :=
  (v = .slice none 0 0 ∧ ss = []) ∨ ∃ b off cap, v = .slice (some ⟨b, off, none⟩) ss.length cap ∧ (ss.length ≤ cap ∧ cap ≤ 9223372036854775807) ∧ b < w.heap.size ∧ ∀ j, j < ss.length → w.cell? ⟨b, off + j, none⟩ = some (.string (nthS ss j))
theorem SsAt.turn {w w' : World} {v : Value} {ss : List ByteArray} {S : List Nat} (h : SsAt w v ss) (hT : Turn S w w') (hS : ∀ b off n c, v = .slice (some ⟨b, off, none⟩) n c → b ∉ S) : SsAt w' v ss := by
  rcases h with h | ⟨b, off, cap, h1, h2, h3, h4⟩
  · exact .inl h
  · exact .inr ⟨b, off, cap, h1, h2, Nat.lt_of_lt_of_le h3 hT.size, fun j hj => hT.cell (h4 j hj) (hS b off _ _ h1)⟩
theorem SsAt.shape {w : World} {v : Value} {ss : List ByteArray} (h : SsAt w v ss) : ∃ a c, v = .slice a ss.length c := by
  rcases h with ⟨rfl, rfl⟩ | ⟨b, off, cap, rfl, _⟩
  · exact ⟨none, 0, rfl⟩
  · exact ⟨_, cap, rfl⟩
theorem ss_own {w : World} {base : Nat} {v : Value} {ss : List ByteArray} (h : w.ownsRow base 9 1 v ss.length (ss.map .string)) : SsAt w v ss := by
  rcases h.2 with ⟨rfl, h0⟩ | ⟨g, cap, cur, rfl, hb, hg, hle, hcap, hsz, ht⟩
  · exact .inl ⟨rfl, List.length_eq_zero_iff.1 h0⟩
  · refine .inr ⟨g, 0, cap, rfl, ⟨hle, by unfold maxLen at hcap; omega⟩, (Array.getElem?_eq_some_iff.1 hg).1, fun j hj => ?_⟩
    have e : (cur.toList.take (ss.length * 1))[j]? = (ss.map Value.string)[j]? := by rw [ht]
    rw [List.getElem?_take, if_pos (by omega), List.getElem?_map] at e
    rw [Nat.zero_add]
    simp only [World.cell?, hg]
    have e2 : cur[j]? = cur.toList[j]? := by simp
    show cur[j]? = _
    rw [e2, e, nthS]
    simp [hj]
theorem infoS : (Tryz.prog.info? 9).map (fun i => (i.zero, i.size, i.bytes)) = some (some (.string ⟨#[]⟩), 1, 16) := by kernel_rfl
theorem sclone_c (v : Value) (ss : List ByteArray) (w : World) (hl : ss.length ≤ 1048576) (h : SsAt w v ss) :
    Calls Tryz.prog 105 #[v] w fun e w' => ∃ v', e = .returned v' ∧ w'.ownsRow w.heap.size 9 1 v' ss.length (ss.map .string) ∧ Below w.heap.size w w' := by
  rcases h with ⟨rfl, rfl⟩ | ⟨b, off, cap, rfl, _, _, hc⟩
  · refine (Tryz.slices_Clone_nil_f105 0 0 w).mono ?_
    rintro e w' ⟨rfl, rfl⟩
    exact ⟨_, rfl, World.ownsRow_nil _ _ _ _, Below.refl _ _⟩
  · obtain ⟨i, hi, hz0, hz1, hz2⟩ := info_parts infoS
    refine (Tryz.slices_Clone_f105 i (.string ⟨#[]⟩) 1 16 hi hz0 hz1 hz2 rfl (by decide) Tryz.sizeOf9 b off ss.length cap (ss.map .string) w (by simp) (by unfold maxLen; omega) (by omega) (fun j u hu => ?_) (fun u hu => ?_)).mono ?_
    · have hj : j < ss.length := by have := (List.getElem?_eq_some_iff.1 hu).1; simpa using this
      rw [hc j hj, ← hu, List.getElem?_map, nthS]
      simp [hj]
    · obtain ⟨s, _, rfl⟩ := List.mem_map.1 hu; rfl
    · rintro e w' ⟨v', rfl, ho, _, hB⟩
      exact ⟨v', rfl, ho, hB⟩

abbrev nils16 : Array Value := #[.nilIface, .nilIface, .nilIface, .nilIface, .nilIface, .nilIface, .nilIface, .nilIface, .nilIface, .nilIface, .nilIface, .nilIface, .nilIface, .nilIface, .nilIface, .nilIface]
/-- The kin of a process that has none. -/
abbrev KnAt0 (w : World) (b : Nat) (picks : Value) : Prop := w.heap[b]? = some (.cells #[.slice none 0 0, .slice none 0 0, picks, .int .i64 0] 120)
end Go.Proofs.YtfkoehfkiommpaaGreatDoor
