/- The law of a path's parts. -/
import Derived.Test.YteimilnecahifaaGreatDoorNRef2
import Derived.Laws.Strings
import Derived.Deep.RegionHeld3
namespace Go.Proofs.YteimilnecahifaaGreatDoor.Nm
open Go.Proofs.YteimilnecahifaaGreatDoor Go.Proofs.YteimilnecahifaaGreatDoor.Op
open Go.RowKit

theorem behindL_len (l : List UInt8) : (behindL l).length ≤ l.length := by
  unfold behindL
  simp only [List.length_reverse]
  exact Nat.le_trans (List.takeWhile_sublist _).length_le (by simp)
theorem aheadL_len (l a : List UInt8) (h : aheadL l = some a) : a.length ≤ l.length := by
  rcases parts_of l with ⟨e, _⟩ | ⟨b, e, h2⟩
  · rw [e] at h; cases h
  · rw [e] at h; cases h
    rw [h2]; simp
theorem baseS_len (l : List UInt8) : (baseS l []).length ≤ l.length := by
  rw [baseS]
  split
  · simp
  · rename_i h
    split
    · cases l with
      | nil => exact absurd rfl h
      | cons a b => simp
    · rw [lessS_nil]
      exact Nat.le_trans (behindL_len _) (cutE_len _)
theorem dirS_len (l : List UInt8) : (dirS l).length ≤ l.length + 1 := by
  rw [dirS]
  split
  · simp
  · split
    · simp
    · have h := cutE_len l
      cases ha : aheadL (cutE l) with
      | none => simp
      | some a =>
        have h2 := aheadL_len _ _ ha
        simp only
        split
        · simp
        · have := cutE_len a
          omega
theorem bne_bz (a : List UInt8) : ((bz a).toList != (bz a).toList) = false := by simp
theorem beq_self_bz (a : List UInt8) : ((bz a).toList == (bz a).toList) = true := by simp
set_option maxHeartbeats 4000000 in
set_option maxRecDepth 100000 in
theorem parts_law {Amb : World → Prop} (S : SaysN Amb) (s suf : ByteArray) (w : World) (hA : Amb w) (hs : s.size ≤ 1048575) (ht : suf.size ≤ 1048575) : Calls Tryz.prog 3 #[.string s, .string suf] w fun e w' => e = .returned (.bool true) ∧ Below w.heap.size w w' := by
  obtain ⟨l, rfl⟩ : ∃ l, s = bz l := ⟨s.data.toList, rfl⟩
  obtain ⟨f, rfl⟩ : ∃ f, suf = bz f := ⟨suf.data.toList, rfl⟩
  rw [bz_size] at hs ht
  have haw := awake_c S w hA
  have hdir : ∀ (u : World) (x : List UInt8), x.length ≤ 2097152 → Amb u → Calls Tryz.prog 7 #[.string (bz x)] u fun e w' => e = .returned (.string (bz (dirS x))) ∧ Below u.heap.size u w' := fun u x hx hu => S.dir (bz x) u hu (by rw [bz_size]; exact hx)
  have hbase : ∀ (u : World) (x y : List UInt8), x.length ≤ 2097152 → y.length ≤ 2097152 → Amb u → Calls Tryz.prog 8 #[.string (bz x), .string (bz y)] u fun e w' => e = .returned (.string (bz (baseS x y))) ∧ Below u.heap.size u w' := fun u x y hx hy hu => S.base (bz x) (bz y) u hu (by rw [bz_size]; exact hx) (by rw [bz_size]; exact hy)
  have HK : Hid (∀ a b, Amb a → Below a.heap.size a b → Amb b) := S.keep
  have HA := Lib.hid hA
  have HB := Lib.hid (And.intro hdir hbase)
  have hlD := dirS_len l
  have hlB := baseS_len l
  clear hA S hdir hbase
  have q1 := bne_bz (dirS l)
  have q2 := bne_bz (baseS l [])
  have q3 := bne_bz (baseS l f)
  go_enter Tryz.func3, Tryz.ntmps3
  go_upto_region 6 with (first
    | (go_at_call 6; refine haw.mono ?_; rintro e w1 ⟨rfl, hB1⟩; have H1 := Lib.hid (And.intro (HK.out _ _ HA.out hB1) hB1); have c2 := HB.out.1 w1 l (by omega) H1.out.1; clear hB1 haw)
    | (go_at_call 7; refine c2.mono ?_; rintro e w2 ⟨rfl, hB2⟩; have H2 := Lib.hid (And.intro (HK.out _ _ H1.out.1 hB2) (H1.out.2.trans (hB2.mono H1.out.2.size))); have c3 := HB.out.2 w2 l [] (by omega) (by simp) H2.out.1; rw [bz_nil] at c3; clear hB2 c2 H1)
    | (go_at_call 8; refine c3.mono ?_; rintro e w3 ⟨rfl, hB3⟩; have H3 := Lib.hid (And.intro (HK.out _ _ H2.out.1 hB3) (H2.out.2.trans (hB3.mono H2.out.2.size))); have c4 := rdir_c l w3 (by omega); clear hB3 c3 H2)
    | (go_at_call 9; refine c4.mono ?_; rintro e w4 ⟨rfl, hB4⟩; have H4 := Lib.hid (And.intro (HK.out _ _ H3.out.1 hB4) (H3.out.2.trans (hB4.mono H3.out.2.size))); have c5 := rbase_c l [] w4 (by omega) (by simp); rw [bz_nil] at c5; clear hB4 c4 H3)
    | (go_at_call 10; refine c5.mono ?_; rintro e w5 ⟨rfl, hB5⟩; have H5 := Lib.hid (And.intro (HK.out _ _ H4.out.1 hB5) (H4.out.2.trans (hB5.mono H4.out.2.size))); have c6 := HB.out.2 w5 l f (by omega) (by omega) H5.out.1; clear hB5 c5 H4)
    | (go_at_call 8; refine c6.mono ?_; rintro e w6 ⟨rfl, hB6⟩; have H6 := Lib.hid (And.intro (HK.out _ _ H5.out.1 hB6) (H5.out.2.trans (hB6.mono H5.out.2.size))); have c7 := rbase_c l f w6 (by omega) (by omega); clear hB6 c6 H5)
    | (go_at_call 10; refine c7.mono ?_; rintro e w7 ⟨rfl, hB7⟩; have H7 := Lib.hid (And.intro (HK.out _ _ H6.out.1 hB7) (H6.out.2.trans (hB7.mono H6.out.2.size))); clear hB7 c7 H6))
  clear q1 q2 q3
  by_cases h0 : l = []
  · subst h0
    rw [show dirS [] = [46] from rfl, show baseS [] [] = [] from rfl]
    have e1 : bz [46] = ⟨#[46]⟩ := rfl
    have e2 : bz [] = ⟨#[]⟩ := rfl
    rw [e1, e2]
    clear e1 e2
    go_wp2
    go_ret
    exact ⟨rfl, H7.out.2⟩
  have q0 := empty_bz h0
  by_cases h1 : baseS l [] = [47]
  · rw [h1, parts_none l h1 h0]
    have e1 : bz [47] = ⟨#[47]⟩ := rfl
    rw [e1]
    clear e1 h0 h1 hlD hlB
    go_wp2
    go_ret
    exact ⟨rfl, H7.out.2⟩
  obtain ⟨x1, x2⟩ := parts_again l h0 h1
  have q1 : ((bz (baseS l [])).toList == [47]) = false := by
    have := beq_bz_no (a := baseS l []) (b := [47]) h1
    rwa [show (bz [47]).toList = [47] from by rw [ByteArray.toList_eq]; rfl] at this
  generalize dirS l = d at hlD x1 x2 ⊢
  generalize baseS l [] = b at hlB x1 x2 q1 h1 ⊢
  have hcat : bz d ++ ⟨#[47]⟩ ++ bz b = bz (d ++ 47 :: b) := by
    rw [show (⟨#[47]⟩ : ByteArray) = bz [47] from rfl, bz_app, bz_app]
    simp
  have hlen : (d ++ 47 :: b).length ≤ 2097152 := by simp; omega
  generalize d ++ 47 :: b = t at hcat hlen x1 x2
  have c8 := HB.out.1 w7 t hlen H7.out.1
  rw [x2] at c8
  have q5 := beq_self_bz d
  have q6 := beq_self_bz b
  have hz1 := bz_size d
  have hz2 := bz_size b
  have hd2 : d.length ≤ 1048576 := by omega
  have hb2 : b.length ≤ 1048576 := by omega
  have HX := Lib.hid (And.intro x1 x2)
  clear x1 x2 h0 h1 hlD hlB
  go_wp2_with (first
    | (go_at_call 7; refine c8.mono ?_; rintro e w8 ⟨rfl, hB8⟩; have H8 := Lib.hid (And.intro (HK.out _ _ H7.out.1 hB8) (H7.out.2.trans (hB8.mono H7.out.2.size))); have c9 := HB.out.2 w8 t [] (by omega) (by simp) H8.out.1; rw [bz_nil, HX.out.1] at c9; clear hB8 c8 H7)
    | (go_at_call 8; refine c9.mono ?_; rintro e w9 ⟨rfl, hB9⟩; have H9 := Lib.hid (H8.out.2.trans (hB9.mono H8.out.2.size)); clear hB9 c9 H8))
  go_ret
  exact ⟨rfl, H9.out⟩
end Go.Proofs.YteimilnecahifaaGreatDoor.Nm

namespace Go.Proofs.YteimilnecahifaaGreatDoor.Nm
open Go.Proofs.YteimilnecahifaaGreatDoor Go.Proofs.YteimilnecahifaaGreatDoor.Op
open Go.RowKit

def eachL (args : List ByteArray) (k : Nat) : List UInt8 := ((args.take k).map oneE).flatten
def lineL (args : List ByteArray) (k : Nat) : List UInt8 := joinS (args.take k)
theorem joinS_snoc : ∀ (l : List ByteArray) (a : ByteArray), joinS (l ++ [a]) = if l = [] then a.data.toList else joinS l ++ 32 :: a.data.toList
  | [], a => rfl
  | [b], a => by simp [joinS]
  | b :: c :: l, a => by
    have := joinS_snoc (c :: l) a
    simp only [List.cons_append, joinS] at this ⊢
    rw [this]
    simp
theorem take_snoc {l : List ByteArray} {k : Nat} (h : k < l.length) : l.take (k + 1) = l.take k ++ [nth l k] := by
  rw [List.take_succ_eq_append_getElem h]
  simp [nth, h]
theorem eachL_next {args : List ByteArray} {k : Nat} (h : k < args.length) : eachL args (k + 1) = eachL args k ++ oneE (nth args k) := by
  rw [eachL, take_snoc h, List.map_append, List.flatten_append]
  simp [eachL]
theorem lineL_next {args : List ByteArray} {k : Nat} (h : k < args.length) : lineL args (k + 1) = if k = 0 then (nth args k).data.toList else lineL args k ++ 32 :: (nth args k).data.toList := by
  rw [lineL, take_snoc h, joinS_snoc]
  cases k with
  | zero => simp
  | succ k => rw [if_neg (by intro e; have := congrArg List.length e; rw [List.length_take] at this; simp only [List.length_nil] at this; omega), if_neg (by omega), lineL]
theorem tot_take (args : List ByteArray) : ∀ k, tot (args.take k) ≤ tot args := by
  induction args with
  | nil => intro k; simp
  | cons a l ih =>
    intro k
    cases k with
    | zero => simp [tot]
    | succ k => rw [List.take_succ_cons, tot_cons, tot_cons]; have := ih k; omega
theorem each_lenL : ∀ (l : List ByteArray), ((l.map oneE).flatten).length = tot l + 3 * l.length
  | [] => rfl
  | a :: l => by
    have := each_lenL l
    rw [List.map_cons, List.flatten_cons, List.length_append, this, tot_cons, List.length_cons]
    have : (oneE a).length = a.size + 3 := by simp [oneE]
    omega
theorem join_len : ∀ (l : List ByteArray), (joinS l).length ≤ tot l + l.length
  | [] => by simp [joinS]
  | [a] => by simp [joinS, tot]
  | a :: b :: l => by
    have := join_len (b :: l)
    rw [joinS, tot_cons, List.length_append, List.length_cons]
    have h : a.data.toList.length = a.size := rfl
    simp only [List.length_cons] at *
    omega
theorem nth_size (args : List ByteArray) (k : Nat) (h : k < args.length) : (nth args k).size ≤ tot args := by
  have : nth args k ∈ args := by simp only [nth, List.getElem?_eq_getElem h, Option.getD_some]; exact List.getElem_mem h
  generalize nth args k = x at this
  clear h
  induction args with
  | nil => simp at this
  | cons a l ih =>
    rw [tot_cons]
    rcases List.mem_cons.1 this with rfl | h
    · omega
    · have := ih h; omega
theorem fE_not : fE ≠ Op.dashes := by decide
theorem names_echo (args : List ByteArray) : namesS (nEcho :: args) = some ⟨joinS args ++ [10], [], 0⟩ := by
  rw [namesS, if_pos rfl]
set_option maxHeartbeats 4000000 in
set_option maxRecDepth 100000 in
theorem each_law {Amb : World → Prop} (S : SaysN Amb) (av : Value) (args : List ByteArray) (w : World) (hA : Amb w) (hS : StrsAt w av args) (ht : tot args ≤ 1048576) (hn : args.length ≤ 1048576) : Calls Tryz.prog 5 #[av] w fun e w' => e = .returned (.bool true) ∧ Below w.heap.size w w' := by
  have haw := awake_c S w hA
  obtain ⟨xa, ca, rfl⟩ : ∃ a c, av = .slice a args.length c := by
    rcases hS with ⟨rfl, rfl⟩ | ⟨b, off, cap, rfl, _⟩ <;> exact ⟨_, _, rfl⟩
  have HA := Lib.hid (And.intro hA (And.intro hS S))
  clear hA S hS
  generalize hk : args.length = n at hn ⊢
  have HN := Lib.hid hk
  clear hk
  by_cases h100 : (100 : Int) < (n : Int)
  · go_enter Tryz.func5, Tryz.ntmps5
    go_wp2_with (go_at_call 6; refine haw.mono ?_; rintro e w1 ⟨rfl, hB1⟩)
    go_ret
    exact ⟨rfl, hB1⟩
  go_enter Tryz.func5, Tryz.ntmps5
  go_upto_region 4 with (go_at_call 6; refine haw.mono ?_; rintro e w1 ⟨rfl, hB1⟩; have H1 := Lib.hid (And.intro (HA.out.2.2.keep _ _ HA.out.1 hB1) (And.intro (HA.out.2.1.below hB1) hB1)); clear hB1 haw)
  have hn100 : n ≤ 100 := by omega
  have hB0 : Below w1.heap.size w1 (w1.alloc (.cells ([nPrintf, fE].map Value.string).toArray 9)) := (Below.refl _ w1).alloc (Nat.le_refl _) _
  have hst1 := H1.out.2.1.below hB0
  rw [HN.out] at hst1
  obtain ⟨rE, hE⟩ : ∃ r, Hid (r = (⟨eachS args, [], 0⟩ : Res)) := ⟨_, Lib.hid rfl⟩
  obtain ⟨rL, hL⟩ : ∃ r, Hid (r = (⟨joinS args ++ [10], [], 0⟩ : Res)) := ⟨_, Lib.hid rfl⟩
  go_upto_region 5 with (first
    | (at_builtin; refine wpList_append_strs rfl _ _ rfl w1.heap.size _ 2 _ rfl (own_lits w1 [nPrintf, fE] 2 rfl (by decide)) (.slice xa n ca) args rfl hst1 (by rw [HN.out]; omega) (by simp) ?_; intro v2 w2 hown2 hgrow2; have hB2 : Below w1.heap.size w1 w2 := hB0.grown hgrow2 hB0.size (fun j ej => own_ge2 (own_lits w1 [nPrintf, fE] 2 rfl (by decide)) j ej); have hr := run_c HA.out.2.2 v2 (nPrintf :: fE :: args) rE w2 (HA.out.2.2.keep _ _ H1.out.1 hB2) (strs_own hown2 (by simp; omega)) ⟨.inr (.inr ⟨args, by rw [HN.out]; omega, ht, .inl rfl⟩)⟩ (by rw [hE.out]; exact names_printf1 fE_not (run_E args)); clear hst1 hgrow2 hown2 hB0)
    | (go_at_call 12; refine hr.mono ?_; intro e w3 hL3; obtain ⟨oa, oc, ea, ec, n1, n2, n3, rfl, hb3, hB3, _⟩ := step_of hB2 hL3; have H3 := Lib.hid (And.intro (HA.out.2.2.keep _ _ H1.out.1 hB3) (And.intro (H1.out.2.1.below hB3) (And.intro hb3 (H1.out.2.2.trans (hB3.mono H1.out.2.2.size))))); clear hr hL3 hb3 hB3 hB2))
  have z3 := heap_size_al w3 (.cells #[.slice oa rE.out.length oc, .slice ea rE.err.length ec, .int .i64 (rE.st : Int), .slice none 0 0, .int .i64 n1, .int .i64 n2, .int .i64 n3] 30)
  generalize w3.alloc _ = X3 at H3 z3 ⊢
  generalize w3.heap.size = b3 at H3 z3 ⊢
  have hB0 : Below X3.heap.size X3 (X3.alloc (.cells ([nEcho].map Value.string).toArray 9)) := (Below.refl _ X3).alloc (Nat.le_refl _) _
  have hst1 := H3.out.2.1.below hB0
  rw [HN.out] at hst1
  have ho1 := own_lits X3 [nEcho] 1 rfl (by decide)
  rw [z3] at ho1
  go_upto_region 6 with (first
    | (at_builtin; refine wpList_append_strs rfl _ _ rfl (b3 + 1) _ 1 _ rfl ho1 (.slice xa n ca) args rfl hst1 (by rw [HN.out]; omega) (by rw [← z3]; exact hB0.size) ?_; intro v4 w4 hown4 hgrow4; have hB4 : Below X3.heap.size X3 w4 := hB0.grown hgrow4 hB0.size (fun j ej => by rw [z3]; exact own_ge2 ho1 j ej); have hr := run_c HA.out.2.2 v4 (nEcho :: args) rL w4 (HA.out.2.2.keep _ _ H3.out.1 hB4) (strs_own hown4 (by simp; omega)) ⟨.inr (.inr ⟨args, by rw [HN.out]; omega, ht, .inr rfl⟩)⟩ (by rw [hL.out]; exact names_echo args); clear hst1 hgrow4 hown4 hB0 ho1)
    | (go_at_call 12; refine hr.mono ?_; intro e w5 hL5; obtain ⟨oa5, oc5, ea5, ec5, n15, n25, n35, rfl, hb5, hB5, _⟩ := step_of hB4 hL5; have H5 := Lib.hid (And.intro (H3.out.2.1.below hB5) (And.intro (And.intro (H3.out.2.2.1.below hB5) hb5) (H3.out.2.2.2.trans (hB5.mono H3.out.2.2.2.size)))); clear hr hL5 hb5 hB5 hB4))
  generalize w5.alloc _ = X5 at H5 ⊢
  generalize w5.heap.size = b5 at H5 ⊢
  clear H3 H1 z3
  go_wp2_with fail
  go_loopw [6, 7, 8] (fun wv lv iv wr => ∃ k : Nat, k ≤ n ∧ iv = .int .i64 k ∧ wv = .string (bz (eachL args k)) ∧ lv = .string (bz (lineL args k)) ∧ Below X5.heap.size X5 wr) (fun _ _ iv _ => n - (intOf iv).toNat)
  case atStart => exact ⟨0, by omega, rfl, rfl, rfl, Below.refl _ _⟩
  case round =>
    obtain ⟨k, hk, rfl, rfl, rfl, hb⟩ := hrel
    have hlE : (eachL args k).length ≤ 1048576 + 300 := by
      rw [eachL, each_lenL]
      have h1 := tot_take args k
      have h2 : (args.take k).length ≤ 100 := by rw [List.length_take]; omega
      omega
    have hlL : (lineL args k).length ≤ 1048576 + 100 := by
      have h0 := join_len (args.take k)
      rw [lineL]
      have h1 := tot_take args k
      have h2 : (args.take k).length ≤ 100 := by rw [List.length_take]; omega
      omega
    by_cases hlt : k < n
    · have hka : k < args.length := by rw [HN.out]; exact hlt
      have hst := H5.out.1
      rw [HN.out] at hst
      obtain ⟨ab, ao, rfl, hcell⟩ : ∃ ab ao, xa = some ⟨ab, ao, none⟩ ∧ X5.cell? ⟨ab, ao + k, none⟩ = some (.string (nth args k)) := by
        rcases hst with ⟨h, h0⟩ | ⟨ab, ao, cap, h, _, _, hc⟩
        · rw [h0] at hka; simp at hka
        · cases h
          exact ⟨ab, ao, rfl, hc k hka⟩
      have hx : wr.cell? ⟨ab, ao + k, none⟩ = some (.string (nth args k)) := (hb.cell (World.block_lt_of_cell? _ _ hcell)).trans hcell
      have hsz := nth_size args k hka
      have HE := Lib.hid (And.intro (eachL_next hka) (lineL_next hka))
      have HQ : Hid (k = 0 → lineL args k = []) := fun e => by subst e; rfl
      have hz1 := bz_size (eachL args k)
      have hz2 := bz_size (lineL args k)
      generalize eachL args k = E at hlE hz1 HE ⊢
      generalize lineL args k = L at hlL hz2 HE HQ ⊢
      generalize nth args k = a at hx hsz HE ⊢
      have ha : a.size ≤ 1048576 := by omega
      have hlI : (k : Int) < (n : Int) := by omega
      clear hcell hst hka hsz hlt
      have hcat : bz E ++ ⟨#[60]⟩ ++ a ++ ⟨#[62, 10]⟩ = bz (E ++ oneE a) := by
        rw [show (⟨#[60]⟩ : ByteArray) = bz [60] from rfl, show (⟨#[62, 10]⟩ : ByteArray) = bz [62, 10] from rfl, ← bz_of a, bz_app, bz_app, bz_app]
        simp [oneE, bz_list]
      have HC := Lib.hid hcat
      clear hcat
      cases k with
      | zero =>
        rw [Nat.add_zero] at hx
        go_wp2
        refine ⟨⟨1, by omega, rfl, ?_, ?_, hb⟩, ?_⟩
        · rw [HC.out, HE.out.1]
        · have h1 := HE.out.2
          rw [if_pos rfl] at h1
          rw [HQ.out rfl, h1, ← bz_of a, bz_app]; rfl
        · simp only [intOf]; omega
      | succ k =>
        go_wp2
        refine ⟨⟨k + 1 + 1, by omega, rfl, ?_, ?_, hb⟩, ?_⟩
        · rw [HC.out, HE.out.1]
        · have h1 := HE.out.2
          rw [if_neg (by omega)] at h1
          rw [h1, show (⟨#[32]⟩ : ByteArray) = bz [32] from rfl, ← bz_of a, bz_app, bz_app]
          simp [bz_list]
        · simp only [intOf]; omega
    · obtain rfl : k = n := by omega
      have HE : Hid (eachL args k = (args.map oneE).flatten ∧ lineL args k = joinS args) := by
        show eachL args k = _ ∧ lineL args k = _
        rw [eachL, lineL, ← HN.out, List.take_length]; exact ⟨rfl, rfl⟩
      have hB1 := H5.out.2.1.1.below hb
      have hB2 := H5.out.2.1.2.below hb
      obtain ⟨p1, q1, k1, c1⟩ := hB1.out
      obtain ⟨p2, q2, k2, c2⟩ := hB2.out
      have d1 := c1 wr (Below.refl _ _)
      have d2 := c2 wr (Below.refl _ _)
      have HR : Hid (rE.out = eachS args ∧ rL.out = joinS args ++ [10]) := by
        show rE.out = _ ∧ rL.out = _
        rw [hE.out, hL.out]; exact ⟨rfl, rfl⟩
      have hz1 := bz_size (eachL args k)
      have hz2 := bz_size (lineL args k)
      have hcat : bz (lineL args k) ++ ⟨#[10]⟩ = bz rL.out := by
        rw [show (⟨#[10]⟩ : ByteArray) = bz [10] from rfl, bz_app, HE.out.2, HR.out.2]
      have e2 := beq_bz_yes (a := rL.out) rfl
      have HB := Lib.hid (H5.out.2.2.trans (hb.mono H5.out.2.2.size))
      clear c1 c2 hB1 hB2
      by_cases h0 : k = 0
      · subst h0
        have ha : args = [] := List.length_eq_zero_iff.1 HN.out
        have e1 : bz rE.out = ⟨#[60, 62, 10]⟩ := by rw [HR.out.1, ha]; rfl
        rw [e1] at d1
        clear ha e1
        go_wp2
        go_ret
        exact ⟨rfl, HB.out⟩
      · have hkI : ((k : Int) == 0) = false := by simpa using h0
        have ha : args ≠ [] := fun e => h0 (by rw [← HN.out, e]; rfl)
        have e1 : bz (eachL args k) = bz rE.out := by rw [HR.out.1, eachS, if_neg ha, HE.out.1]
        rw [e1] at hz1 ⊢
        have e3 := beq_bz_yes (a := rE.out) rfl
        clear e1 ha h0
        go_wp2
        go_ret
        exact ⟨rfl, HB.out⟩
end Go.Proofs.YteimilnecahifaaGreatDoor.Nm

namespace Go.Proofs.YteimilnecahifaaGreatDoor.Nm


section
variable {P : Program} {ops : Array Oper} {Q : Exit → Act → World → Prop} {md : Region.Mode} {S : World → Prop}
theorem takeH {i : Nat} {oi : Oper} {v : Value} {fuel : Nat} {listed : Array Bool} {a : Act} {w : World} (hi : ops.toList[i]? = some oi)
    (hb : (Region.noSelect ops && Region.free md ops listed i && (Region.ready md ops listed).contains i) = true)
    (hQ : ∀ c a w, Q (.panic c) (a.put oi.dst v) w → Q (.panic c) a w) (hw : Region.wanted oi (yielded ops a.tmps) = true) (hy : ∀ u, S u → (execOp a.eval oi).run P u = .ok (.value v) u) (hS : S w)
    (h : wpAnyH P md ops Q S fuel (listed.setIfInBounds i true) (a.put oi.dst v) w) : wpAnyH P md ops Q S (fuel + 1) listed a w := by
  simp only [Bool.and_eq_true] at hb
  rw [Array.getElem?_toList] at hi
  exact wpAnyH_take hi hb.1.1 hb.1.2 hb.2 hQ (.inl ⟨hw, hy⟩) hS h
theorem oneH {i : Nat} {o : Oper} {fuel : Nat} {listed : Array Bool} {a : Act} {w : World} (ho : ops.toList[i]? = some o) (hr : Region.ready md ops listed = [i])
    (h : ∀ K' : Act → World → Prop, Shut (∀ a w, S w → wpAnyH P md ops Q S fuel (listed.setIfInBounds i true) a w → K' a w) → if Region.wanted o (yielded ops a.tmps) = true then Oper.wp P o a w K' Q else K' (a.put o.dst undef) w) : wpAnyH P md ops Q S (fuel + 1) listed a w := by
  rw [Array.getElem?_toList] at ho
  refine wpAnyH_all hr (by simp) ?_
  intro j hj
  rw [List.mem_singleton] at hj
  subst hj
  exact wpOp_step ho (fun K' hK => h K' (fun a w hS hW => hK a w ⟨hS, hW⟩))
end
end Go.Proofs.YteimilnecahifaaGreatDoor.Nm
