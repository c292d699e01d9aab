/- A string that is being read, as it lies in memory. -/
import Derived.Deep.RegionWith
import Derived.Maps.AppendAt
import Derived.Test.YtfkoehfkiommpaaGreatDoorZRef2
import Derived.Lib.IndexMore
import Derived.Lib.Strings
import Derived.Lib.Bytealg
namespace Go.Proofs.YtfkoehfkiommpaaGreatDoor.Tr
open Go.Proofs.YtfkoehfkiommpaaGreatDoor.Op
open Go.RowKit

def u8s (l : List UInt8) : List Value := l.map fun c => .int .u8 (c.toNat : Int)
theorem u8s_snoc (l : List UInt8) (c : UInt8) : u8s (l ++ [c]) = u8s l ++ [.int .u8 (c.toNat : Int)] := by simp [u8s]
theorem info_u8 : (Tryz.prog.info? 5).map (fun i => (i.zero, i.size, i.bytes)) = some (some (.int .u8 0), 1, 1) := by kernel_rfl
theorem h_cell {w : World} {b T : Nat} {cs : Array Value} {fz : Nat × Nat} (h : w.heap[b]? = some (.cells cs T fz)) (i : Nat) {v : Value} (hi : cs[i]? = some v) : w.cell? ⟨b, i, none⟩ = some v := by simp [World.cell?, h, hi]
theorem h_fz {w : World} {b T : Nat} {cs : Array Value} (h : w.heap[b]? = some (.cells cs T)) (i : Nat) : w.frozen? ⟨b, i, none⟩ = false := by simp [World.frozen?, h]
theorem h_lt {w : World} {b : Nat} {o : Obj} (h : w.heap[b]? = some o) : b < w.heap.size := (Array.getElem?_eq_some_iff.1 h).1
theorem h_set {w : World} {b T : Nat} {cs : Array Value} (h : w.heap[b]? = some (.cells cs T)) (i : Nat) (v : Value) : (w.setCell ⟨b, i, none⟩ v).heap[b]? = some (.cells (cs.setIfInBounds i v) T) := by
  simp [World.setCell, Array.getElem?_modify, h]
abbrev ptr (b : Nat) : Value := .pointer (some ⟨b, 0, none⟩)

/-- The reader's own cells. -/
abbrev XsAt (w : World) (xb : Nat) (s : ByteArray) (k : Nat) (ov : Value) (rest : Int) (bad : Bool) : Prop := w.heap[xb]? = some (.cells #[.string s, .int .i64 (k : Int), ov, .int .i64 rest, .bool bad] 50)
abbrev Row (w : World) (B : Nat) (v : Value) (l : List UInt8) : Prop := w.ownsRow B 5 1 v l.length (u8s l)
def XAt (w : World) (xb : Nat) (s : ByteArray) (k : Nat) (x : St) : Prop := ∃ ov, XsAt w xb s k ov x.rest x.bad ∧ Row w (xb + 1) ov x.out
section
variable {w w1 w2 : World} {xb k : Nat} {s : ByteArray} {ov : Value} {rest : Int} {bad : Bool} {l : List UInt8}
theorem XsAt.grown (h : XsAt w1 xb s k ov rest bad) (hO : Row w1 (xb + 1) ov l) (hg : w1.grownBy w2 ov.ownBlock) : XsAt w2 xb s k ov rest bad := by
  refine (hg.block xb (h_lt h) fun e => ?_).trans h
  have := own_ge2 hO xb e.symm
  omega
theorem row_set (h : Row w (xb + 1) ov l) (i : Nat) (v : Value) : Row (w.setCell ⟨xb, i, none⟩ v) (xb + 1) ov l := by
  refine ⟨h.1, ?_⟩
  rcases h.2 with hn | ⟨g, cap, cur, h1, hb, hg, r⟩
  · exact .inl hn
  · exact .inr ⟨g, cap, cur, h1, hb, by rw [Below.heap_setCell _ _ _ _ (by simp; omega)]; exact hg, r⟩
theorem XsAt.setOut (h : XsAt w xb s k ov rest bad) (v : Value) : XsAt (w.setCell ⟨xb, 2, none⟩ v) xb s k v rest bad := by simpa using h_set h 2 v
theorem XsAt.setAt (h : XsAt w xb s k ov rest bad) (m : Nat) : XsAt (w.setCell ⟨xb, 1, none⟩ (.int .i64 (m : Int))) xb s m ov rest bad := by simpa using h_set h 1 (.int .i64 (m : Int))
theorem XsAt.setRest (h : XsAt w xb s k ov rest bad) (m : Int) : XsAt (w.setCell ⟨xb, 3, none⟩ (.int .i64 m)) xb s k ov m bad := by simpa using h_set h 3 (.int .i64 m)
theorem XsAt.setBad (h : XsAt w xb s k ov rest bad) (b : Bool) : XsAt (w.setCell ⟨xb, 4, none⟩ (.bool b)) xb s k ov rest b := by simpa using h_set h 4 (.bool b)
theorem below_set (h : Below xb w w1) (i : Nat) (v : Value) : Below xb w (w1.setCell ⟨xb, i, none⟩ v) := h.setCell (p := ⟨xb, i, none⟩) (Nat.le_refl _) _
theorem row_cat {v : Value} {c : UInt8} (h : w.ownsRow (xb + 1) 5 1 v (l.length + 1) (u8s l ++ [.int .u8 (c.toNat : Int)])) : Row w (xb + 1) v (l ++ [c]) := by
  show w.ownsRow _ _ _ _ _ _
  rw [u8s_snoc, List.length_append]
  exact h
/-- Behind an append of one byte. -/
theorem x_app {v : Value} {c : UInt8} (hX : XsAt w1 xb s k ov rest bad) (hO : Row w1 (xb + 1) ov l) (hB : Below xb w w1) (hg : w1.grownBy w2 ov.ownBlock) (h2 : w2.ownsRow (xb + 1) 5 1 v (l.length + 1) (u8s l ++ [.int .u8 (c.toNat : Int)])) :
    XsAt (w2.setCell ⟨xb, 2, none⟩ v) xb s k v rest bad ∧ Row (w2.setCell ⟨xb, 2, none⟩ v) (xb + 1) v (l ++ [c]) ∧ Below xb w (w2.setCell ⟨xb, 2, none⟩ v) := by
  have hl := h_lt hX
  exact ⟨(hX.grown hO hg).setOut v, row_set (row_cat h2) 2 v, below_set (hB.grown hg (by omega) (fun j ej => by have := own_ge2 hO j ej; omega)) 2 v⟩
theorem XsAt.al (h : XsAt w xb s k ov rest bad) (o : Obj) : XsAt (w.alloc o) xb s k ov rest bad := (heap_alloc_old w o (h_lt h)).trans h
theorem row_al (h : Row w (xb + 1) ov l) (o : Obj) : Row (w.alloc o) (xb + 1) ov l := World.ownsRow.alloc h o
theorem below_al (h : Below xb w w1) (hl : xb < w1.heap.size) (o : Obj) : Below xb w (w1.alloc o) := h.alloc (by omega) o
theorem XsAt.turn (h : XsAt w xb s k ov rest bad) (hB : Below w.heap.size w w1) : XsAt w1 xb s k ov rest bad := (hB.block xb (h_lt h)).trans h
theorem row_turn {B : Nat} (h : Row w B ov l) (hB : Below w.heap.size w w1) : Row w1 B ov l := by
  refine ⟨h.1, ?_⟩
  rcases h.2 with hn | ⟨g, cap, cur, h1, hb, hg, r⟩
  · exact .inl hn
  · exact .inr ⟨g, cap, cur, h1, hb, by rw [hB.block g (h_lt hg)]; exact hg, r⟩
theorem cell_one_new (w : World) (v : Value) (T : Nat) : ∀ j u, [v][j]? = some u → (w.alloc (.cells #[v] T)).cell? ((⟨w.heap.size, 0, none⟩ : Addr).add j) = some u := by
  intro j u h
  have hj : j = 0 := by
    rcases j with _ | j
    · rfl
    · simp at h
  subst hj
  have hh : (w.alloc (.cells #[v] T)).heap[w.heap.size]? = some (.cells #[v] T) := by show (w.heap.push _)[w.heap.size]? = _; simp
  rw [Addr.add_lit]
  simp only [World.cell?, hh]
  simpa using h
end
theorem ix_str (s : ByteArray) (m : Nat) (i : Int) (hi : i = (m : Int)) (h : m < s.size) (u : World) : (Instr.index 9 (.string s) (.int .i64 i)).run Tryz.prog u = .ok (.int .u8 (s[m].toNat : Int)) u := by
  subst hi
  rw [run_index_string u 9 s .i64 (m : Int) Tryz.underlying9, dif_pos ⟨by omega, by omega⟩]
  simp
theorem bytesOf_succ (p : Nat → Bool) (n : Nat) : bytesOf p (n + 1) = bytesOf p n ++ if p n = true then [UInt8.ofNat n] else [] := by
  unfold bytesOf
  rw [List.range_succ, List.filter_append, List.map_append]
  congr 1
  by_cases h : p n = true
  · simp [h]
  · simp [h]
theorem classL_of (name : List UInt8) : classL name = bytesOf (classB name) 256 := by
  unfold classL classB
  cases classP name with
  | some p => rfl
  | none =>
    show [] = bytesOf (fun _ => false) 256
    simp [bytesOf]
theorem bytesOf_len (p : Nat → Bool) (n : Nat) : (bytesOf p n).length ≤ n := by
  unfold bytesOf
  rw [List.length_map]
  exact Nat.le_trans (List.length_filter_le _ _) (by simp)
end Go.Proofs.YtfkoehfkiommpaaGreatDoor.Tr

namespace Go.Proofs.YtfkoehfkiommpaaGreatDoor.Tr
open Go.Proofs.YtfkoehfkiommpaaGreatDoor.Op
open Go.RowKit

/-- What a method of the reader comes to. -/
def Took (w : World) (xb : Nat) (s : ByteArray) (k : Nat) (x : St) (r : Option (Nat × (St → St))) (e : Ending) (w' : World) : Prop :=
  (match r with
  | none => e = .returned (.bool false) ∧ XAt w' xb s k x
  | some p => e = .returned (.bool true) ∧ XAt w' xb s (k + p.1) (p.2 x)) ∧ Below xb w w'
theorem shut_next {s : List UInt8} {a b : UInt8} {r : List UInt8} (h : s = a :: b :: r) (hn : ¬ (a = 58 ∧ b = 93)) : shutS s = (shutS (b :: r)).map (· + 1) := by
  subst h; rw [shutS, if_neg hn]
theorem shut_here {s : List UInt8} {a b : UInt8} {r : List UInt8} (h : s = a :: b :: r) (h1 : a = 58) (h2 : b = 93) : shutS s = some 0 := by
  subst h; rw [shutS, if_pos ⟨h1, h2⟩]
theorem shut_short {s : List UInt8} (h : s.length ≤ 1) : shutS s = none := by
  rcases s with _ | ⟨a, _ | ⟨b, r⟩⟩
  · rfl
  · rfl
  · simp at h
theorem class_not {s : List UInt8} (h : s.length ≤ 1 ∨ s[0]? ≠ some 91 ∨ s[1]? ≠ some 58) : classS s = none := by
  rcases s with _ | ⟨a, _ | ⟨b, r⟩⟩
  · rfl
  · rfl
  · rw [classS, if_neg]
    rintro ⟨rfl, rfl⟩
    rcases h with h | h | h
    · simp at h
    · simp at h
    · simp at h
theorem class_is {s t : List UInt8} (h : s = 91 :: 58 :: t) : classS s = (shutS t).map fun k => (k + 4, fun x : St => { x with out := x.out ++ classL (t.take k), bad := x.bad || (classP (t.take k)).isNone }) := by
  subst h; rw [classS, if_pos ⟨rfl, rfl⟩]
theorem ext_list (s : ByteArray) (a b : Nat) : (s.extract a b).data.toList = (s.data.toList.drop a).take (b - a) := by
  rw [ByteArray.data_extract, Array.toList_extract]

theorem u8_wrap (n : Int) (h : 0 ≤ n ∧ n ≤ 255) : IntKind.u8.wrap n = n := by
  simp only [IntKind.wrap, IntKind.signed, IntKind.bits]
  simp
  omega
theorem below_drewN {n : Nat} {w : World} {q : Nat} : Below n w (w.drewN q) := ⟨rfl, rfl, rfl, Nat.le_refl _, fun _ _ => rfl⟩
set_option maxHeartbeats 4000000 in
set_option maxRecDepth 100000 in
theorem class_m (xb k : Nat) (s : ByteArray) (x : St) (w : World) (hs : s.size ≤ 2097152) (hk : k < s.size) (hl : x.out.length ≤ 65536 * k) (hX : XAt w xb s k x) :
    Calls Tryz.prog 15 #[ptr xb] w (Took w xb s k x (classS (s.data.toList.drop k))) := by
  obtain ⟨ov, hx, hO⟩ := hX
  have c0 := h_cell hx 0 rfl
  have c1 := h_cell hx 1 rfl
  have HX := Lib.hid (And.intro hx hO)
  clear hx hO
  by_cases h1 : k + 1 < s.size
  · by_cases h2 : s[k] = 91
    · have e2 : ((s[k].toNat : Int) != 91) = false := by have q : ((s[k].toNat : Int) == 91) = true := u8_yes 91 (by omega) h2; rw [bne, q]; rfl
      have n1 : decide ((s.size : Int) ≤ (k : Int) + 1) = false := decide_eq_false (by omega)
      have w1 : IntKind.i64.wrap ((k : Int) + 1) = (k : Int) + 1 := IntWalk.i64_in _ (by omega)
      have ix1 := ix_str s (k + 1) ((k : Int) + 1) rfl h1
      by_cases h3 : s[k + 1] = 58
      · have e3 : ((s[k + 1].toNat : Int) != 58) = false := by have q : ((s[k + 1].toNat : Int) == 58) = true := u8_yes 58 (by omega) h3; rw [bne, q]; rfl
        have HC : Hid (classS (s.data.toList.drop k) = (shutS (s.data.toList.drop (k + 2))).map fun j => (j + 4, fun x : St => { x with out := x.out ++ classL ((s.data.toList.drop (k + 2)).take j), bad := x.bad || (classP ((s.data.toList.drop (k + 2)).take j)).isNone })) := by
          show _ = _
          refine class_is ?_
          rw [by_drop s k hk, by_drop s (k + 1) h1, h2, h3]
        generalize classS (s.data.toList.drop k) = C at HC ⊢
        clear h2 h3
        go_enter Tryz.func15, Tryz.ntmps15
        go_wp2_with fail
        go_quiet (fail)
        have HX1 : Hid (XsAt (w.drewN nq) xb s k ov x.rest x.bad ∧ Row (w.drewN nq) (xb + 1) ov x.out ∧ Below xb w (w.drewN nq)) := ⟨HX.out.1, HX.out.2, below_drewN⟩
        have c0' : (w.drewN nq).cell? ⟨xb, 0, none⟩ = some (.string s) := c0
        have c1' : (w.drewN nq).cell? ⟨xb, 1, none⟩ = some (.int .i64 (k : Int)) := c1
        clear c0 c1 HX
        generalize w.drewN nq = W1 at HX1 c0' c1' ⊢
        go_wp2_with fail
        go_loop [3] (fun i => ∃ m : Nat, k + 2 ≤ m ∧ m ≤ s.size ∧ i = .int .i64 m ∧ Hid (shutS (s.data.toList.drop (k + 2)) = (shutS (s.data.toList.drop m)).map (· + (m - (k + 2))))) (fun i => s.size - (intOf i).toNat)
        case atStart => exact ⟨k + 2, by omega, by omega, by go_num, (show _ = _ from by simp)⟩
        case round =>
          obtain ⟨m, hm, hms, rfl, HI⟩ := hrel
          by_cases hlt : m + 1 < s.size
          · have p1 : (m : Int) + 1 < (s.size : Int) := by omega
            have hD := by_drop s m (by omega)
            have hD2 := by_drop s (m + 1) hlt
            rw [hD2] at hD
            by_cases g1 : s[m] = 58
            · have d1 : ((s[m].toNat : Int) == 58) = true := u8_yes 58 (by omega) g1
              by_cases g2 : s[m + 1] = 93
              · have d2 : ((s[m + 1].toNat : Int) == 93) = true := u8_yes 93 (by omega) g2
                have HF : Hid (C = some (m - (k + 2) + 4, fun x : St => { x with out := x.out ++ classL (s.extract (k + 2) m).data.toList, bad := x.bad || (classP (s.extract (k + 2) m).data.toList).isNone })) := by
                  show C = _
                  rw [HC.out, HI.out, shut_here hD g1 g2, ext_list]
                  simp
                clear HC HI hD hD2 g1 g2
                go_wp2_with fail
                have w2 : IntKind.i64.wrap ((k : Int) + 2) = (k : Int) + 2 := IntWalk.i64_in _ (by omega)
                have q1 : (k : Int) + 2 ≤ (m : Int) := by omega
                have q2 : (m : Int) ≤ (s.size : Int) := by omega
                have q3 : ((k : Int) + 2).toNat = k + 2 := by omega
                go_quiet (fail)
                clear d1 d2 e2 e3 ix1 w1 n1
                have hnm : (s.extract (k + 2) m).size ≤ 2097152 := by rw [ByteArray.size_extract]; omega
                generalize s.extract (k + 2) m = name at HF hnm ⊢
                have HX2 : Hid (XsAt (W1.drewN nq) xb s k ov x.rest x.bad ∧ Row (W1.drewN nq) (xb + 1) ov x.out ∧ Below xb w (W1.drewN nq)) := ⟨HX1.out.1, HX1.out.2.1, HX1.out.2.2.trans below_drewN⟩
                clear c0' c1' HX1
                generalize W1.drewN nq = W2 at HX2 ⊢
                have hcs := classes_c name W2 hnm
                have HKn : Hid ((classP name.data.toList).isSome = !(classP name.data.toList).isNone) := by show _ = _; cases classP name.data.toList <;> rfl
                obtain ⟨kn, hkn⟩ : ∃ kn, (classP name.data.toList).isSome = kn := ⟨_, rfl⟩
                rw [hkn] at hcs
                have hm2 : k + (m - (k + 2) + 4) = m + 2 := by omega
                have HFin : Hid (∀ w', XAt w' xb s (m + 2) ⟨x.out ++ bytesOf (classB name.data.toList) 256, x.rest, x.bad || !kn⟩ → Below xb w w' → Took w xb s k x C (.returned (.bool true)) w') := fun w' hx hb => by
                  rw [HF.out]
                  refine ⟨⟨rfl, ?_⟩, hb⟩
                  have e : (classP name.data.toList).isNone = !kn := by rw [← hkn, HKn.out]; simp
                  show XAt w' xb s (k + (m - (k + 2) + 4)) ⟨x.out ++ classL name.data.toList, x.rest, x.bad || (classP name.data.toList).isNone⟩
                  rw [hm2, classL_of, e]
                  exact hx
                clear HF HKn hkn hm2
                cases kn with
                | true =>
                  rw [show (x.bad || !true) = x.bad by simp] at HFin
                  go_wp2_with (go_at_call 28; refine hcs.mono ?_; rintro e w3 ⟨rfl, hB3⟩; have HX3 : Hid (XsAt w3 xb s k ov x.rest x.bad ∧ Row w3 (xb + 1) ov x.out ∧ Below xb w w3) := ⟨HX2.out.1.turn hB3, row_turn HX2.out.2.1 hB3, HX2.out.2.2.trans (hB3.mono (Nat.le_of_lt (h_lt HX2.out.1)))⟩; clear HX2 hB3 hcs)
                  go_loopw [6] (fun cv wr => ∃ (c : Nat) (o2 : Value), c ≤ 256 ∧ cv = .int .i64 c ∧ Hid (XsAt wr xb s k o2 x.rest x.bad ∧ Row wr (xb + 1) o2 (x.out ++ bytesOf (classB name.data.toList) c) ∧ Below xb w wr)) (fun cv _ => 256 - (intOf cv).toNat)
                  case atStart => exact ⟨0, ov, by omega, rfl, (show _ ∧ _ ∧ _ from ⟨HX3.out.1, by simpa [bytesOf] using HX3.out.2.1, HX3.out.2.2⟩)⟩
                  case round =>
                    obtain ⟨c, o2, hc, rfl, HO⟩ := hrel
                    clear HX3
                    by_cases hlt2 : c < 256
                    · have hcl := class_c name c wr hnm hlt2
                      have HB := Lib.hid (bytesOf_succ (classB name.data.toList) c)
                      have hbl := bytesOf_len (classB name.data.toList) c
                      have hlen : (x.out ++ bytesOf (classB name.data.toList) c).length ≤ 65536 * k + 256 := by rw [List.length_append]; omega
                      have hxl := h_lt HO.out.1
                      have f2 := h_cell HO.out.1 2 rfl
                      have cv8 : IntKind.u8.wrap (c : Int) = (c : Int) := u8_wrap _ (by omega)
                      have hofn : ((UInt8.ofNat c).toNat : Int) = (c : Int) := by simp; omega
                      have HL := Lib.hid (show ∀ y, x.out ++ (bytesOf (classB name.data.toList) c ++ y) = x.out ++ bytesOf (classB name.data.toList) c ++ y from fun y => by simp)
                      generalize x.out ++ bytesOf (classB name.data.toList) c = L at HO hlen HL
                      obtain ⟨i0, hi, hz0, hz1, hz2⟩ := info_parts2 info_u8
                      cases hcb : classB name.data.toList c with
                      | true =>
                        rw [hcb] at hcl
                        have HB2 : Hid (x.out ++ bytesOf (classB name.data.toList) (c + 1) = L ++ [UInt8.ofNat c]) := by show _ = _; rw [HB.out, if_pos hcb, HL.out]
                        clear HB HL hcb hbl
                        go_wp2_with (first
                          | (go_at_call 29; refine hcl.mono ?_; rintro e wr ⟨rfl, rfl⟩)
                          | (at_builtin; refine wpList_append_own _ rfl _ _ 23 rfl (xb + 1) 5 i0 (.int .u8 0) 1 1 Tryz.underlying23 hi hz0 hz1 hz2 rfl (by decide) _ _ _ rfl (row_al HO.out.2.1 _) ⟨wr.heap.size, 0, none⟩ 1 1 [.int .u8 (c : Int)] rfl rfl (cell_one_new _ _ _) (by simp [Value.oneCell']) (by unfold maxLen; omega) (by omega) (by simp; omega) ?_; intro v2 w2 hown2 hgrow2 _; obtain ⟨xa, ca, rfl⟩ := own_slice2 hown2; have hX4 := (HO.out.1.al _).grown (row_al HO.out.2.1 _) hgrow2; have f4 := h_cell hX4 2 rfl; have z4 := h_fz hX4 2))
                        rw [← hofn] at hown2
                        refine ⟨⟨c + 1, .slice xa (L.length + 1) ca, by omega, by go_num, ?_⟩, by simp [intOf]; omega⟩
                        rw [HB2.out]
                        exact x_app (HO.out.1.al _) (row_al HO.out.2.1 _) (below_al HO.out.2.2 hxl _) hgrow2 hown2
                      | false =>
                        rw [hcb] at hcl
                        have HB2 : Hid (x.out ++ bytesOf (classB name.data.toList) (c + 1) = L) := by show _ = _; rw [HB.out, if_neg (by rw [hcb]; simp), HL.out, List.append_nil]
                        clear HB HL hcb hbl
                        go_wp2_with (go_at_call 29; refine hcl.mono ?_; rintro e wr ⟨rfl, rfl⟩)
                        refine ⟨⟨c + 1, o2, by omega, by go_num, ?_⟩, by simp [intOf]; omega⟩
                        rw [HB2.out]
                        exact HO
                    · obtain rfl : c = 256 := by omega
                      have f1 := h_cell HO.out.1 1 rfl
                      have z1 := h_fz HO.out.1 1
                      clear hlt2 hc
                      go_wp2_with fail
                      go_ret
                      exact HFin.out _ ⟨o2, by simpa using HO.out.1.setAt (m + 2), row_set HO.out.2.1 1 _⟩ (below_set HO.out.2.2 1 _)
                | false =>
                  rw [show (x.bad || !false) = true by simp] at HFin
                  go_wp2_with (go_at_call 28; refine hcs.mono ?_; rintro e w3 ⟨rfl, hB3⟩; have hx3 := HX2.out.1.turn hB3; have y4 := h_cell hx3 4 rfl; have z4 := h_fz hx3 4; have HX3 : Hid (XsAt (w3.setCell ⟨xb, 4, none⟩ (.bool true)) xb s k ov x.rest true ∧ Row (w3.setCell ⟨xb, 4, none⟩ (.bool true)) (xb + 1) ov x.out ∧ Below xb w (w3.setCell ⟨xb, 4, none⟩ (.bool true))) := ⟨hx3.setBad true, row_set (row_turn HX2.out.2.1 hB3) 4 _, below_set (HX2.out.2.2.trans (hB3.mono (Nat.le_of_lt (h_lt HX2.out.1)))) 4 _⟩; clear HX2 hB3 hcs hx3)
                  go_loopw [6] (fun cv wr => ∃ (c : Nat) (o2 : Value), c ≤ 256 ∧ cv = .int .i64 c ∧ Hid (XsAt wr xb s k o2 x.rest true ∧ Row wr (xb + 1) o2 (x.out ++ bytesOf (classB name.data.toList) c) ∧ Below xb w wr)) (fun cv _ => 256 - (intOf cv).toNat)
                  case atStart => exact ⟨0, ov, by omega, rfl, (show _ ∧ _ ∧ _ from ⟨HX3.out.1, by simpa [bytesOf] using HX3.out.2.1, HX3.out.2.2⟩)⟩
                  case round =>
                    obtain ⟨c, o2, hc, rfl, HO⟩ := hrel
                    clear HX3
                    by_cases hlt2 : c < 256
                    · have hcl := class_c name c wr hnm hlt2
                      have HB := Lib.hid (bytesOf_succ (classB name.data.toList) c)
                      have hbl := bytesOf_len (classB name.data.toList) c
                      have hlen : (x.out ++ bytesOf (classB name.data.toList) c).length ≤ 65536 * k + 256 := by rw [List.length_append]; omega
                      have hxl := h_lt HO.out.1
                      have f2 := h_cell HO.out.1 2 rfl
                      have cv8 : IntKind.u8.wrap (c : Int) = (c : Int) := u8_wrap _ (by omega)
                      have hofn : ((UInt8.ofNat c).toNat : Int) = (c : Int) := by simp; omega
                      have HL := Lib.hid (show ∀ y, x.out ++ (bytesOf (classB name.data.toList) c ++ y) = x.out ++ bytesOf (classB name.data.toList) c ++ y from fun y => by simp)
                      generalize x.out ++ bytesOf (classB name.data.toList) c = L at HO hlen HL
                      obtain ⟨i0, hi, hz0, hz1, hz2⟩ := info_parts2 info_u8
                      cases hcb : classB name.data.toList c with
                      | true =>
                        rw [hcb] at hcl
                        have HB2 : Hid (x.out ++ bytesOf (classB name.data.toList) (c + 1) = L ++ [UInt8.ofNat c]) := by show _ = _; rw [HB.out, if_pos hcb, HL.out]
                        clear HB HL hcb hbl
                        go_wp2_with (first
                          | (go_at_call 29; refine hcl.mono ?_; rintro e wr ⟨rfl, rfl⟩)
                          | (at_builtin; refine wpList_append_own _ rfl _ _ 23 rfl (xb + 1) 5 i0 (.int .u8 0) 1 1 Tryz.underlying23 hi hz0 hz1 hz2 rfl (by decide) _ _ _ rfl (row_al HO.out.2.1 _) ⟨wr.heap.size, 0, none⟩ 1 1 [.int .u8 (c : Int)] rfl rfl (cell_one_new _ _ _) (by simp [Value.oneCell']) (by unfold maxLen; omega) (by omega) (by simp; omega) ?_; intro v2 w2 hown2 hgrow2 _; obtain ⟨xa, ca, rfl⟩ := own_slice2 hown2; have hX4 := (HO.out.1.al _).grown (row_al HO.out.2.1 _) hgrow2; have f4 := h_cell hX4 2 rfl; have z4 := h_fz hX4 2))
                        rw [← hofn] at hown2
                        refine ⟨⟨c + 1, .slice xa (L.length + 1) ca, by omega, by go_num, ?_⟩, by simp [intOf]; omega⟩
                        rw [HB2.out]
                        exact x_app (HO.out.1.al _) (row_al HO.out.2.1 _) (below_al HO.out.2.2 hxl _) hgrow2 hown2
                      | false =>
                        rw [hcb] at hcl
                        have HB2 : Hid (x.out ++ bytesOf (classB name.data.toList) (c + 1) = L) := by show _ = _; rw [HB.out, if_neg (by rw [hcb]; simp), HL.out, List.append_nil]
                        clear HB HL hcb hbl
                        go_wp2_with (go_at_call 29; refine hcl.mono ?_; rintro e wr ⟨rfl, rfl⟩)
                        refine ⟨⟨c + 1, o2, by omega, by go_num, ?_⟩, by simp [intOf]; omega⟩
                        rw [HB2.out]
                        exact HO
                    · obtain rfl : c = 256 := by omega
                      have f1 := h_cell HO.out.1 1 rfl
                      have z1 := h_fz HO.out.1 1
                      clear hlt2 hc
                      go_wp2_with fail
                      go_ret
                      exact HFin.out _ ⟨o2, by simpa using HO.out.1.setAt (m + 2), row_set HO.out.2.1 1 _⟩ (below_set HO.out.2.2 1 _)
              · have d2 : ((s[m + 1].toNat : Int) == 93) = false := u8_no 93 (by omega) g2
                have HJ : Hid (shutS (s.data.toList.drop (k + 2)) = (shutS (s.data.toList.drop (m + 1))).map (· + (m + 1 - (k + 2)))) := by
                  show _ = _
                  rw [HI.out, shut_next hD (fun h => g2 h.2), ← hD2, Option.map_map]
                  congr 1
                  funext j
                  simp
                  omega
                clear HI hD hD2 g1 g2
                go_wp2_with fail
                exact ⟨⟨m + 1, by omega, by omega, by go_num, HJ⟩, by simp [intOf]; omega⟩
            · have d1 : ((s[m].toNat : Int) == 58) = false := u8_no 58 (by omega) g1
              have HJ : Hid (shutS (s.data.toList.drop (k + 2)) = (shutS (s.data.toList.drop (m + 1))).map (· + (m + 1 - (k + 2)))) := by
                show _ = _
                rw [HI.out, shut_next hD (fun h => g1 h.1), ← hD2, Option.map_map]
                congr 1
                funext j
                simp
                omega
              clear HI hD hD2 g1
              go_wp2_with fail
              exact ⟨⟨m + 1, by omega, by omega, by go_num, HJ⟩, by simp [intOf]; omega⟩
          · have HF : Hid (C = none) := by
              show C = _
              rw [HC.out, HI.out, shut_short (by rw [List.length_drop]; show s.size - m ≤ 1; omega)]
              rfl
            have p1 : ¬ (m : Int) + 1 < (s.size : Int) := by omega
            clear HC HI
            go_wp2_with fail
            go_ret
            rw [HF.out]
            exact ⟨⟨rfl, _, HX1.out.1, HX1.out.2.1⟩, HX1.out.2.2⟩
      · have e3 : ((s[k + 1].toNat : Int) != 58) = true := by have q : ((s[k + 1].toNat : Int) == 58) = false := u8_no 58 (by omega) h3; rw [bne, q]; rfl
        have HF : Hid (classS (s.data.toList.drop k) = none) := class_not (.inr (.inr (by rw [by_drop s k hk, by_drop s (k + 1) h1]; simpa using h3)))
        generalize classS (s.data.toList.drop k) = C at HF ⊢
        clear h2 h3
        go_enter Tryz.func15, Tryz.ntmps15
        go_wp2_with fail
        go_quiet (fail)
        go_wp2_with fail
        go_ret
        rw [HF.out]
        exact ⟨⟨rfl, _, HX.out.1, HX.out.2⟩, below_drewN⟩
    · have e2 : ((s[k].toNat : Int) != 91) = true := by have q : ((s[k].toNat : Int) == 91) = false := u8_no 91 (by omega) h2; rw [bne, q]; rfl
      have n1 : decide ((s.size : Int) ≤ (k : Int) + 1) = false := decide_eq_false (by omega)
      have w1 : IntKind.i64.wrap ((k : Int) + 1) = (k : Int) + 1 := IntWalk.i64_in _ (by omega)
      have HF : Hid (classS (s.data.toList.drop k) = none) := class_not (.inr (.inl (by rw [by_drop s k hk]; simpa using h2)))
      generalize classS (s.data.toList.drop k) = C at HF ⊢
      clear h2
      go_enter Tryz.func15, Tryz.ntmps15
      go_wp2_with fail
      go_quiet (fail)
      go_wp2_with fail
      go_ret
      rw [HF.out]
      exact ⟨⟨rfl, _, HX.out.1, HX.out.2⟩, below_drewN⟩
  · have n1 : decide ((s.size : Int) ≤ (k : Int) + 1) = true := decide_eq_true (by omega)
    have w1 : IntKind.i64.wrap ((k : Int) + 1) = (k : Int) + 1 := IntWalk.i64_in _ (by omega)
    have HF : Hid (classS (s.data.toList.drop k) = none) := class_not (.inl (by rw [List.length_drop]; show s.size - k ≤ 1; omega))
    generalize classS (s.data.toList.drop k) = C at HF ⊢
    go_enter Tryz.func15, Tryz.ntmps15
    go_wp2_with fail
    go_quiet (fail)
    go_wp2_with fail
    go_ret
    rw [HF.out]
    exact ⟨⟨rfl, _, HX.out.1, HX.out.2⟩, below_drewN⟩
end Go.Proofs.YtfkoehfkiommpaaGreatDoor.Tr

namespace Go.Proofs.YtfkoehfkiommpaaGreatDoor.Tr
open Go.Proofs.YtfkoehfkiommpaaGreatDoor.Op
open Go.RowKit

/-- A string of bytes. -/
abbrev sb (l : List UInt8) : ByteArray := ⟨l.toArray⟩
theorem sb_data (l : List UInt8) : (sb l).data.toList = l := by simp
theorem sb_size (l : List UInt8) : (sb l).size = l.length := by simp [ByteArray.size]
theorem sb_of (s : ByteArray) : s = sb s.data.toList := by cases s; simp
theorem sb_get (l : List UInt8) (k : Nat) (h : k < (sb l).size) : (sb l)[k] = l[k]'(by rw [sb_size] at h; exact h) := by
  show (l.toArray)[k]'_ = _
  simp
theorem sb_inj {a b : ByteArray} (h : a.data.toList = b.data.toList) : a = b := by rw [sb_of a, sb_of b, h]
theorem sb_ext (l : List UInt8) (a b : Nat) : (sb l).extract a b = sb ((l.drop a).take (b - a)) := sb_inj (by rw [ext_list, sb_data, sb_data])
theorem sb_from (l : List UInt8) (a : Nat) : (sb l).extract a (sb l).size = sb (l.drop a) := by
  rw [sb_ext, sb_size, List.take_of_length_le (by rw [List.length_drop]; exact Nat.le_refl _)]

theorem index_shut : ∀ t : List UInt8, Lib.index t [58, 93] = match shutS t with | some k => (k : Int) | none => -1
  | [] => rfl
  | [a] => by
    have h : ([58, 93] : List UInt8).isPrefixOf [a] = false := by simp [List.isPrefixOf]
    simp [Lib.index, h, shutS]
  | a :: b :: r => by
    have ih := index_shut (b :: r)
    rw [Lib.index, shutS]
    by_cases hc : a = 58 ∧ b = 93
    · rw [if_pos hc, if_pos (by obtain ⟨rfl, rfl⟩ := hc; rfl)]
      rfl
    · rw [if_neg hc, if_neg (by
        intro h
        simp [List.isPrefixOf] at h
        exact hc ⟨h.1.symm, h.2.symm⟩), ih]
      cases hs : shutS (b :: r) with
      | none => rfl
      | some k =>
        simp only [Option.map_some]
        rw [if_neg (by simp)]
        simp
theorem cut_shut (t : List UInt8) : Lib.cut t [58, 93] = match shutS t with | some k => (t.take k, t.drop (k + 2), true) | none => (t, [], false) := by
  rw [Lib.cut, index_shut]
  cases shutS t with
  | none => rfl
  | some k => simp
theorem shut_tail {a : UInt8} {t : List UInt8} (h : shutS (a :: t) = none) : shutS t = none := by
  cases t with
  | nil => rfl
  | cons b r =>
    rw [shutS] at h
    split at h
    · cases h
    · simpa using h
theorem shut_drop : ∀ (n : Nat) {t : List UInt8}, shutS t = none → shutS (t.drop n) = none
  | 0, _, h => by simpa using h
  | n + 1, [], _ => by simp [shutS]
  | n + 1, a :: t, h => by
    rw [List.drop_succ_cons]
    exact shut_drop n (shut_tail h)
theorem octs_take : ∀ (n : Nat) (l : List UInt8), octs n l = (l.take n).takeWhile isOct
  | 0, l => by simp [octs]
  | n + 1, [] => by simp [octs]
  | n + 1, c :: r => by
    rw [octs, List.take_succ_cons, List.takeWhile_cons]
    split
    · rw [octs_take n r]
    · rfl
theorem takeWhile_all (p : UInt8 → Bool) : ∀ (l : List UInt8), ∀ c ∈ l.takeWhile p, p c = true
  | [], c, h => by simp at h
  | a :: r, c, h => by
    rw [List.takeWhile_cons] at h
    split at h
    · rename_i ha
      rcases List.mem_cons.1 h with rfl | h
      · exact ha
      · exact takeWhile_all p r c h
    · simp at h
theorem octs_all (n : Nat) (l : List UInt8) : ∀ c ∈ octs n l, isOct c = true := by
  rw [octs_take]
  intro c hc
  exact takeWhile_all _ _ c hc
theorem rd_oct {c : UInt8} {cs : List UInt8} {n : Int} (h : isOct c = true) (hn : n * 8 + ((c.toNat : Int) - 48) ≤ 511) : rd 8 511 (c :: cs) n = rd 8 511 cs (n * 8 + ((c.toNat : Int) - 48)) := by
  obtain ⟨h1, h2⟩ := isOct_yes h
  rw [rd, if_neg (by omega)]
theorem octal_v (l : List UInt8) (h : ∀ c ∈ l, isOct c = true) (h0 : l ≠ []) (h3 : l.length ≤ 3) : rdAll 8 511 l = (((octV l : Nat) : Int), true) := by
  have ho : ∀ c ∈ l, 48 ≤ c.toNat ∧ c.toNat ≤ 55 := fun c hc => isOct_yes (h c hc)
  rcases l with _ | ⟨a, _ | ⟨b, _ | ⟨c, _ | ⟨d, r⟩⟩⟩⟩
  · exact absurd rfl h0
  · have := ho a (by simp)
    rw [rdAll, if_neg (by simp), rd_oct (h a (by simp)) (by omega), rd]
    simp [octV]
    omega
  · have := ho a (by simp)
    have := ho b (by simp)
    rw [rdAll, if_neg (by simp), rd_oct (h a (by simp)) (by omega), rd_oct (h b (by simp)) (by omega), rd]
    simp [octV]
    omega
  · have := ho a (by simp)
    have := ho b (by simp)
    have := ho c (by simp)
    rw [rdAll, if_neg (by simp), rd_oct (h a (by simp)) (by omega), rd_oct (h b (by simp)) (by omega), rd_oct (h c (by simp)) (by omega), rd]
    simp [octV]
    omega
  · simp at h3
theorem octV_le (l : List UInt8) (h : ∀ c ∈ l, isOct c = true) (h3 : l.length ≤ 3) : octV l ≤ 511 := by
  have ho : ∀ c ∈ l, 48 ≤ c.toNat ∧ c.toNat ≤ 55 := fun c hc => isOct_yes (h c hc)
  rcases l with _ | ⟨a, _ | ⟨b, _ | ⟨c, _ | ⟨d, r⟩⟩⟩⟩
  · simp [octV]
  · have := ho a (by simp)
    simp [octV]
    omega
  · have := ho a (by simp)
    have := ho b (by simp)
    simp [octV]
    omega
  · have := ho a (by simp)
    have := ho b (by simp)
    have := ho c (by simp)
    simp [octV]
    omega
  · simp at h3
theorem wrap_byte (n : Nat) : IntKind.u8.wrap (n : Int) = ((UInt8.ofNat n).toNat : Int) := by
  simp only [IntKind.wrap, IntKind.signed, IntKind.bits]
  simp
/-- Bad stays bad. -/
theorem step_bad (l : List UInt8) (x : St) (h : x.bad = true) : ((stepS l).2 x).bad = true := by
  unfold stepS
  cases hC : classS l with
  | some p =>
    rcases l with _ | ⟨a, _ | ⟨b, t⟩⟩
    · cases hC
    · cases hC
    · rw [classS] at hC
      split at hC
      · cases hs : shutS t with
        | none => rw [hs] at hC; simp at hC
        | some k => rw [hs] at hC; simp at hC; subst hC; simp [h]
      · cases hC
  | none =>
    cases hE : equalS l with
    | some p =>
      rcases l with _ | ⟨a, _ | ⟨b, _ | ⟨d, t⟩⟩⟩
      · cases hE
      · cases hE
      · cases hE
      · rw [equalS] at hE
        split at hE
        · simp at hE; subst hE; simp [addS, h]
        · cases hE
    | none =>
      cases hT : timesS l with
      | some p =>
        rcases l with _ | ⟨a, _ | ⟨b, t⟩⟩
        · cases hT
        · cases hT
        · rw [timesS] at hT
          split at hT
          · simp only at hT
            split at hT
            · simp at hT; subst hT; simp only [timesX]; split
              · rfl
              · split
                · exact h
                · exact h
            · cases hT
          · cases hT
      | none =>
        simp only [plainS]
        split
        · simp [h]
        · simp [addS, h]
theorem setN_bad : ∀ (n : Nat) (l : List UInt8) (x : St), x.bad = true → (setN n l x).bad = true
  | 0, _, _, h => h
  | _ + 1, [], _, h => h
  | n + 1, c :: r, x, h => by
    rw [setN]
    exact setN_bad n _ _ (step_bad _ _ h)
theorem code_at (d : UInt8) : (Lib.indexByte [97, 98, 102, 110, 114, 116, 118] d = -1 ∧ codeS d = d) ∨ ∃ i : Nat, i < 7 ∧ Lib.indexByte [97, 98, 102, 110, 114, 116, 118] d = (i : Int) ∧ cod[i]?.getD 0 = codeS d := by
  by_cases h : ∃ i : Nat, i < 7 ∧ d = sgn[i]?.getD 0
  · obtain ⟨i, hi, rfl⟩ := h
    refine .inr ⟨i, hi, ?_, ?_⟩
    · rcases seven hi with rfl | rfl | rfl | rfl | rfl | rfl | rfl <;> decide
    · exact (codeS_at i hi).symm
  · refine .inl ⟨?_, codeS_no fun i hi e => h ⟨i, hi, e⟩⟩
    have hn : ∀ i, i < 7 → d ≠ sgn[i]?.getD 0 := fun i hi e => h ⟨i, hi, e⟩
    have h0 := hn 0 (by omega); have h1 := hn 1 (by omega); have h2 := hn 2 (by omega); have h3 := hn 3 (by omega); have h4 := hn 4 (by omega); have h5 := hn 5 (by omega); have h6 := hn 6 (by omega)
    simp [sgn] at h0 h1 h2 h3 h4 h5 h6
    simp [Lib.indexByte, Ne.symm h0, Ne.symm h1, Ne.symm h2, Ne.symm h3, Ne.symm h4, Ne.symm h5, Ne.symm h6]
end Go.Proofs.YtfkoehfkiommpaaGreatDoor.Tr
