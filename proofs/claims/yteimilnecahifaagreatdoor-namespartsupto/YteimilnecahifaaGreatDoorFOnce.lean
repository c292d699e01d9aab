/- printf: what its printer asks of whoever says what is no number. -/
import Derived.Test.YteimilnecahifaaGreatDoorFPr
import Derived.Test.YteimilnecahifaaGreatDoorYMap
import Derived.Deep.RegionHeld3
import Derived.Test.YteimilnecahifaaGreatDoorShelf6
namespace Go.Proofs.YteimilnecahifaaGreatDoor.Nm
open Go.Proofs.YteimilnecahifaaGreatDoor Go.Proofs.YteimilnecahifaaGreatDoor.Op
open Go.RowKit

/-- What is asked of the outside. Mc bs M w: bs has been said, the blocks M are one's own; Bd: what will be said in all. -/
structure Mach (B0 tk tb : Nat) (Bd : List ByteArray) (Mc : List ByteArray → List Nat → World → Prop) (Pn : World → Prop) : Prop where
  own : ∀ {bs M w S w' N}, Mc bs M w → Turn S w w' → (∀ b ∈ S, B0 ≤ b ∧ b ∈ M ∧ b ≠ tk) → (∀ b ∈ N, b ∈ M ∨ (w.heap.size ≤ b ∧ b < w'.heap.size)) → tk ∈ N → Mc bs N w'
  lt : ∀ {bs M w}, Mc bs M w → ∀ b ∈ M, B0 ≤ b ∧ b < w.heap.size
  at_tk : ∀ {bs M w}, Mc bs M w → tk ∈ M
  base : ∀ {bs M w}, Mc bs M w → B0 ≤ w.heap.size
  tab : ∀ {bs M w}, Mc bs M w → TabD w ∧ ErS w
  say : ∀ {bs M w a rest}, Mc bs M w → bs ++ a :: rest = Bd → w.heap[tb]? = some (.cells #[ptr tk] 174) → Calls Tryz.prog 118 #[.string a, ptr tb] w fun e w' => (e = .panicked waitsP ∧ Pn w') ∨ ((∃ v, e = .returned v) ∧ Mc (bs ++ [a]) M w' ∧ ∃ S, Turn S w w' ∧ ∀ b ∈ M, b ≠ tk → b ∉ S)
/-- The printer between two parts. S: blocks that no part turns; g: the arguments' one. -/
structure Pst (B0 pr tk tb g : Nat) (S : List Nat) (Mc : List ByteArray → List Nat → World → Prop) (w : World) (bs args : List ByteArray) (out : List UInt8) (av tv : Value) : Prop where
  prt : PrtAt w pr tb av tv false
  arg : ArgsIn w g av args
  row : Row w B0 tv out
  ne : ∀ b, tv.ownBlock = some b → b ≠ pr ∧ b ≠ g ∧ b ∉ S
  mc : Mc bs (pr :: g :: (tv.ownBlock.toList ++ S)) w
  nin : pr ≠ g ∧ pr ∉ S ∧ g ∉ S
  tbx : w.heap[tb]? = some (.cells #[ptr tk] 174)
  ins : tb ∈ S ∧ tk ∈ S ∧ tb ≠ tk
section
variable {B0 pr tk tb g : Nat} {S : List Nat} {Bd : List ByteArray} {Mc : List ByteArray → List Nat → World → Prop} {Pn : World → Prop}
/-- One's own step: the arguments cut. -/
theorem Pst.cut (hM : Mach B0 tk tb Bd Mc Pn) {w w' : World} {bs args args' : List ByteArray} {out : List UInt8} {av tv av' : Value} (h : Pst B0 pr tk tb g S Mc w bs args out av tv) (hp : PrtAt w' pr tb av' tv false) (ha : ArgsIn w' g av' args') (hT : Turn [pr] w w') : Pst B0 pr tk tb g S Mc w' bs args' out av' tv ∧ ∀ b ∈ S, b ∉ [pr] := by
  have hn : ∀ b ∈ S, b ∉ [pr] := fun b hb e => by
    simp only [List.mem_singleton] at e
    exact h.nin.2.1 (e ▸ hb)
  refine ⟨⟨hp, ha, row_keep h.row hT (fun b e => by simpa using (h.ne b e).1), h.ne, hM.own h.mc hT (fun b hb => ?_) (fun b hb => .inl hb) ?_, h.nin, (hT.block tb (h_lt h.tbx) (hn tb h.ins.1)).trans h.tbx, h.ins⟩, hn⟩
  · simp only [List.mem_singleton] at hb
    subst hb
    exact ⟨(hM.lt h.mc b (by simp)).1, by simp, fun e => h.nin.2.1 (e ▸ h.ins.2.1)⟩
  · simp [h.ins.2.1]
/-- One's own step: a text put. -/
theorem Pst.put (hM : Mach B0 tk tb Bd Mc Pn) {w w' : World} {bs args : List ByteArray} {out out' : List UInt8} {av tv tv' : Value} (h : Pst B0 pr tk tb g S Mc w bs args out av tv) (hp : PrtAt w' pr tb av tv' false) (hr : Row w' B0 tv' out') (hsn : SameNew w tv tv') (hT : Turn (pr :: tv.ownBlock.toList) w w') : Pst B0 pr tk tb g S Mc w' bs args out' av tv' ∧ ∀ b ∈ S, b ∉ pr :: tv.ownBlock.toList := by
  have hn : ∀ b ∈ S, b ∉ pr :: tv.ownBlock.toList := fun b hb e => by
    simp only [List.mem_cons, Option.mem_toList] at e
    rcases e with e | e
    · exact h.nin.2.1 (e ▸ hb)
    · exact (h.ne b e).2.2 hb
  have hg : g ∉ pr :: tv.ownBlock.toList := fun e => by
    simp only [List.mem_cons, Option.mem_toList] at e
    rcases e with e | e
    · exact h.nin.1 e.symm
    · exact (h.ne g e).2.1 rfl
  have hlt := hM.lt h.mc
  refine ⟨⟨hp, h.arg.turn hT hg, hr, fun b e => ?_, hM.own h.mc hT (fun b hb => ?_) (fun b hb => ?_) ?_, h.nin, (hT.block tb (h_lt h.tbx) (hn tb h.ins.1)).trans h.tbx, h.ins⟩, hn⟩
  · rcases hsn b e with e | e
    · exact h.ne b e
    · refine ⟨fun e1 => ?_, fun e1 => ?_, fun e1 => ?_⟩
      · have := (hlt pr (by simp)).2
        omega
      · have := (hlt g (by simp)).2
        omega
      · have := (hlt b (by simp [e1])).2
        omega
  · simp only [List.mem_cons, Option.mem_toList] at hb
    rcases hb with rfl | hb
    · exact ⟨(hlt b (by simp)).1, by simp, fun e => h.nin.2.1 (e ▸ h.ins.2.1)⟩
    · exact ⟨(hlt b (by simp [hb])).1, by simp [hb], fun e => (h.ne b hb).2.2 (e ▸ h.ins.2.1)⟩
  · simp only [List.mem_cons, List.mem_append, Option.mem_toList] at hb
    rcases hb with rfl | rfl | hb | hb
    · exact .inl (by simp)
    · exact .inl (by simp)
    · rcases hsn b hb with e | e
      · exact .inl (by simp [e])
      · exact .inr ⟨e, (row_ltB hr b hb).2⟩
    · exact .inl (by simp [hb])
  · simp [h.ins.2.1]
/-- What was said. -/
theorem Pst.said {w w' : World} {bs args : List ByteArray} {a : ByteArray} {out : List UInt8} {av tv : Value} (h : Pst B0 pr tk tb g S Mc w bs args out av tv) (hmc : Mc (bs ++ [a]) (pr :: g :: (tv.ownBlock.toList ++ S)) w') {R : List Nat} (hT : Turn R w w') (hR : ∀ b ∈ pr :: g :: (tv.ownBlock.toList ++ S), b ≠ tk → b ∉ R) : Pst B0 pr tk tb g S Mc w' (bs ++ [a]) args out av tv := by
  have hpk : pr ≠ tk := fun e => h.nin.2.1 (e ▸ h.ins.2.1)
  have hgk : g ≠ tk := fun e => h.nin.2.2 (e ▸ h.ins.2.1)
  refine ⟨(hT.block pr (h_lt h.prt) (hR pr (by simp) hpk)).trans h.prt, h.arg.turn hT (hR g (by simp) hgk), row_keep h.row hT (fun b e => hR b (by simp [e]) (fun e2 => (h.ne b e).2.2 (e2 ▸ h.ins.2.1))), h.ne, hmc, h.nin, (hT.block tb (h_lt h.tbx) (hR tb (by simp [h.ins.1]) h.ins.2.2)).trans h.tbx, h.ins⟩
/-- What no part turns is kept. -/
def KeepS (S : List Nat) (tk : Nat) (w w' : World) : Prop := ∃ R, Turn R w w' ∧ ∀ b ∈ S, b ≠ tk → b ∉ R
theorem KeepS.of {w w' : World} {R : List Nat} (hT : Turn R w w') (h : ∀ b ∈ S, b ∉ R) : KeepS S tk w w' := ⟨R, hT, fun b hb _ => h b hb⟩
theorem KeepS.trans {a b c : World} (h : KeepS S tk a b) (k : KeepS S tk b c) : KeepS S tk a c := by
  obtain ⟨R, h1, h2⟩ := h
  obtain ⟨R', k1, k2⟩ := k
  refine ⟨R ++ R', (h1.mono (by simp +contextual)).trans (k1.mono (by simp +contextual)), fun x hx hn e => ?_⟩
  rcases List.mem_append.1 e with e | e
  · exact h2 x hx hn e
  · exact k2 x hx hn e
theorem KeepS.ob {w w' : World} {b : Nat} {o : Obj} (h : KeepS S tk w w') (hb : b ∈ S) (hn : b ≠ tk) (ho : w.heap[b]? = some o) : w'.heap[b]? = some o := by
  obtain ⟨R, h1, h2⟩ := h
  exact (h1.block b (h_lt ho) (h2 b hb hn)).trans ho
/-- A world below which nothing is turned. -/
theorem Pst.below (hM : Mach B0 tk tb Bd Mc Pn) {w w' : World} {bs args : List ByteArray} {out : List UInt8} {av tv : Value} (h : Pst B0 pr tk tb g S Mc w bs args out av tv) (hB : Below w.heap.size w w') : Pst B0 pr tk tb g S Mc w' bs args out av tv := by
  have hT : Turn [] w w' := Turn.below hB
  exact ⟨(hT.block pr (h_lt h.prt) (by simp)).trans h.prt, h.arg.turn hT (by simp), row_keep h.row hT (by simp), h.ne, hM.own h.mc hT (by simp) (fun b hb => .inl hb) (by simp [h.ins.2.1]), h.nin, (hT.block tb (h_lt h.tbx) (by simp)).trans h.tbx, h.ins⟩
theorem KeepS.below {w w' : World} (hB : Below w.heap.size w w') : KeepS S tk w w' := ⟨[], Turn.below hB, by simp⟩
set_option maxRecDepth 100000 in
set_option maxHeartbeats 2000000 in
theorem number_ok (hM : Mach B0 tk tb Bd Mc Pn) {w : World} {bs args : List ByteArray} {out : List UInt8} {av tv : Value} (h : Pst B0 pr tk tb g S Mc w bs args out av tv) {n : Nat} (hn : NumArg (args.headD nothingS).data.toList n) (hm : n ≤ 9223372036854775807) (hz : args.length ≤ 2097152) (hz2 : (args.headD nothingS).data.toList.length ≤ 2097152) : Calls Tryz.prog 214 #[ptr pr] w fun e w' => e = .returned (.int .i64 (n : Int)) ∧ ∃ av', Pst B0 pr tk tb g S Mc w' bs (args.drop 1) out av' tv ∧ KeepS S tk w w' := by
  have hnx := next_c h.prt h.arg (Ne.symm h.nin.1) hz
  have hrd : ∀ u, Calls Tryz.prog 233 #[.string (args.headD nothingS)] u fun e w' => e = .returned (.tuple #[.int .i64 (n : Int), .bool true]) ∧ Below u.heap.size u w' := fun u => by
    rw [← bz_of (args.headD nothingS)]
    by_cases h0 : (args.headD nothingS).data.toList = []
    · rw [h0] at hn ⊢
      obtain rfl : n = 0 := by
        generalize hE : ([] : List UInt8) = E at hn
        cases hn using NumArg.byForm with
        | nil => rfl
        | ten n => exact absurd hE.symm (dgB_ne 10 n (by omega))
        | hex n => cases hE
        | oct n => cases hE
      exact readNum_nil u
    · exact readNum_c (num_hd hn h0) hm hz2 u
  have H := Lib.hid (And.intro hM h)
  clear hM h hn hz hz2
  generalize args.headD nothingS = A at hnx hrd
  go_enter Tryz.func214, Tryz.ntmps214
  go_wp2_with (first
    | (go_at_call 208; refine hnx.mono ?_; rintro e w2 ⟨rfl, av', hp2, ha2, hT2⟩; have H2 := Lib.hid (And.intro hp2 (And.intro ha2 hT2)); clear hp2 ha2 hT2 hnx)
    | (go_at_call 233; refine (hrd _).mono ?_; rintro e w3 ⟨rfl, hB3⟩; have H3 := Lib.hid hB3; clear hB3 hrd))
  go_ret
  obtain ⟨q1, q2⟩ := H.out.2.cut H.out.1 H2.out.1 H2.out.2.1 H2.out.2.2
  exact ⟨rfl, av', q1.below H.out.1 H3.out, (KeepS.of H2.out.2.2 q2).trans (KeepS.below H3.out)⟩
set_option maxRecDepth 100000 in
set_option maxHeartbeats 2000000 in
theorem number_bad (hM : Mach B0 tk tb Bd Mc Pn) {w : World} {bs r rest : List ByteArray} {out : List UInt8} {av tv : Value} (h : Pst B0 pr tk tb g S Mc w bs (bz [120] :: r) out av tv) (hbd : bs ++ bz [120] :: rest = Bd) (hz : r.length ≤ 2097151) : Calls Tryz.prog 214 #[ptr pr] w fun e w' => (e = .panicked waitsP ∧ Pn w') ∨ (e = .returned (.int .i64 0) ∧ ∃ av', Pst B0 pr tk tb g S Mc w' (bs ++ [bz [120]]) r out av' tv ∧ KeepS S tk w w') := by
  have hnx := next_some h.prt h.arg (Ne.symm h.nin.1) (by omega)
  have H := Lib.hid (And.intro hM (And.intro h hbd))
  clear hM h hbd hz
  generalize hA : bz [120] = A at hnx
  have HA := Lib.hid hA
  clear hA
  go_enter Tryz.func214, Tryz.ntmps214
  go_wp2_with (first
    | (go_at_call 208; refine hnx.mono ?_; rintro e w2 ⟨rfl, av', hp2, ha2, hT2⟩; have H2 := Lib.hid (H.out.2.1.cut H.out.1 hp2 ha2 hT2); have HT := Lib.hid hT2; have hrd := readNum_x w2 (H.out.1.tab H2.out.1.mc).2; rw [HA.out] at hrd; clear hp2 ha2 hT2 hnx)
    | (go_at_call 233; refine hrd.mono ?_; rintro e w3 ⟨rfl, hB3⟩; have H3 := Lib.hid (H2.out.1.below H.out.1 hB3); have c3 : w3.cell? ⟨pr, 3, none⟩ = some (.func (.func 118) #[] #[ptr tb]) := h_cell H3.out.prt 3 rfl; have hsy := H.out.1.say H3.out.mc H.out.2.2 H3.out.tbx; rw [HA.out] at hsy; have HB := Lib.hid hB3; clear hB3 hrd)
    | (go_at_call 118; refine hsy.mono ?_; rintro e w4 (⟨rfl, hP⟩ | ⟨⟨v, rfl⟩, hmc, R, hT4, hR4⟩); (· exact ⟨rfl, .inl ⟨rfl, hP⟩⟩)))
  go_ret
  refine .inr ⟨rfl, av', H3.out.said hmc hT4 hR4, (KeepS.of HT.out H2.out.2).trans ((KeepS.below HB.out).trans ⟨R, hT4, fun b hb hn => hR4 b (by simp [hb]) hn⟩)⟩
/-- What a part leaves. -/
def PartOut (B0 pr tk tb g : Nat) (S : List Nat) (Mc : List ByteArray → List Nat → World → Prop) (Pn : World → Prop) (w : World) (bs args : List ByteArray) (out : List UInt8) (e : Ending) (w' : World) : Prop :=
  (e = .panicked waitsP ∧ Pn w') ∨ ((∃ v, e = .returned v) ∧ ∃ av' tv', Pst B0 pr tk tb g S Mc w' bs args out av' tv' ∧ KeepS S tk w w')
set_option maxRecDepth 100000 in
set_option maxHeartbeats 2000000 in
/-- A text: its closure. -/
theorem text_c (hM : Mach B0 tk tb Bd Mc Pn) {w : World} {bs args : List ByteArray} {out : List UInt8} {av tv : Value} (h : Pst B0 pr tk tb g S Mc w bs args out av tv) {x : Pc} (hx : OkPc x) {c : Nat} (hc : c ∈ S) (hck : c ≠ tk) (hcx : w.heap[c]? = some (.cells (cvA x (-1)) 283)) (hz : args.length ≤ 2097152) (hz2 : (args.headD nothingS).data.toList.length ≤ 2097152) (hz3 : out.length + (wideS x (args.headD nothingS).data.toList).length ≤ 4194304) : Calls Tryz.prog 211 #[ptr pr, ptr c] w (PartOut B0 pr tk tb g S Mc Pn w bs (args.drop 1) (out ++ wideS x (args.headD nothingS).data.toList)) := by
  have h0 : Pst B0 pr tk tb g S Mc w.drew bs args out av tv := h.below hM (show Below w.heap.size w w.drew from ⟨rfl, rfl, rfl, Nat.le_refl _, fun _ _ => rfl⟩)
  have hcx0 : w.drew.heap[c]? = some (.cells (cvA x (-1)) 283) := hcx
  have hnx := next_c h0.prt h0.arg (Ne.symm h0.nin.1) hz
  have hot := fun u => ofText_c (w := u) hx.width (args.headD nothingS).data.toList hz2
  rw [bz_of] at hot
  have hpt := fun (u : World) (av' : Value) (hP : Pst B0 pr tk tb g S Mc u bs (args.drop 1) out av' tv) => put_c hP.prt hP.row (fun b e => (hP.ne b e).1) (hM.base hP.mc) (wideS x (args.headD nothingS).data.toList) hz3
  obtain ⟨d0, d1, d2, d3, d4, d5, d6⟩ := box_cells hcx0
  have HM := Lib.hid (And.intro hM (And.intro h0 (And.intro hcx0 (And.intro hc hck))))
  clear hM h h0 hcx hcx0 hc hck hz hz2 hz3 hx
  generalize args.headD nothingS = A at *
  generalize hW : wideS x A.data.toList = W at *
  clear hW
  obtain ⟨xb, xl, xm, xp, xk, xz, xs, xw, xq⟩ := x
  unfold cvV cvA at hot
  simp only at hot d0 d1 d2 d3 d4 d5 d6
  go_enter Tryz.func211, Tryz.ntmps211
  go_region_with (first
    | (go_at_call 208; refine hnx.mono ?_; rintro e w2 ⟨rfl, av', hp2, ha2, hT2⟩; have H2 := Lib.hid (HM.out.2.1.cut HM.out.1 hp2 ha2 hT2); have HT := Lib.hid hT2; obtain ⟨e0, e1, e2, e3, e4, e5, e6⟩ := box_cells ((hT2.block c (h_lt HM.out.2.2.1) (H2.out.2 c HM.out.2.2.2.1)).trans HM.out.2.2.1); simp only at e0 e1 e2 e3 e4 e5 e6; clear hp2 ha2 hT2 hnx)
    | (go_at_call 210; refine (hot _).mono ?_; rintro e w3 ⟨rfl, hB3⟩; have H3 := Lib.hid (H2.out.1.below HM.out.1 hB3); have HB := Lib.hid hB3; have hpq := hpt w3 av' H3.out; clear hB3 hot hpt)
    | (go_at_call 209; refine hpq.mono ?_; rintro e w4 ⟨⟨v, rfl⟩, tv', hp4, hr4, hs4, hT4⟩; have H4 := Lib.hid (H3.out.put HM.out.1 hp4 hr4 hs4 hT4); have HT4 := Lib.hid hT4; clear hp4 hr4 hs4 hT4 hpq))
  all_goals
    go_wp2_with fail
    go_end0
    exact .inr ⟨⟨_, rfl⟩, av', tv', H4.out.1, (KeepS.below (show Below w.heap.size w w.drew from ⟨rfl, rfl, rfl, Nat.le_refl _, fun _ _ => rfl⟩)).trans ((KeepS.of HT.out H2.out.2).trans ((KeepS.below HB.out).trans (KeepS.of HT4.out H4.out.2)))⟩
end
end Go.Proofs.YteimilnecahifaaGreatDoor.Nm

namespace Go.Proofs.YteimilnecahifaaGreatDoor.Nm
open Go.Proofs.YteimilnecahifaaGreatDoor Go.Proofs.YteimilnecahifaaGreatDoor.Op
open Go.RowKit

section
variable {B0 pr tk tb g : Nat} {S : List Nat} {Bd : List ByteArray} {Mc : List ByteArray → List Nat → World → Prop} {Pn : World → Prop}
/-- What taking a number comes to. -/
def NumOut (B0 pr tk tb g : Nat) (S : List Nat) (Mc : List ByteArray → List Nat → World → Prop) (Pn : World → Prop) (w : World) (bs args : List ByteArray) (out : List UInt8) (tv : Value) (n : Nat) (e : Ending) (w' : World) : Prop :=
  (e = .panicked waitsP ∧ Pn w') ∨ (e = .returned (.int .i64 (n : Int)) ∧ ∃ av', Pst B0 pr tk tb g S Mc w' bs args out av' tv ∧ KeepS S tk w w')
theorem letid_c (s : ByteArray) (w : World) : Calls Tryz.prog 205 #[.string s] w fun e w' => e = .returned (.string s) ∧ w' = w := by
  go_enter Tryz.func205, Tryz.ntmps205
  go_wp2
  go_ret
  exact ⟨rfl, rfl⟩
set_option maxRecDepth 100000 in
set_option maxHeartbeats 4000000 in
/-- A number with its sign: its closure. -/
theorem sgn_c (hM : Mach B0 tk tb Bd Mc Pn) {w : World} {bs bs' args args' : List ByteArray} {out : List UInt8} {av tv : Value} (h : Pst B0 pr tk tb g S Mc w bs args out av tv) {x : Pc} (hx : OkPc x) (hl : x.letter = 100 ∨ x.letter = 105) {n : Nat} (hn : n ≤ 9223372036854775807) (hnum : Pst B0 pr tk tb g S Mc w.drew bs args out av tv → Calls Tryz.prog 214 #[ptr pr] w.drew (NumOut B0 pr tk tb g S Mc Pn w.drew bs' args' out tv n)) {c : Nat} (hc : c ∈ S) (hck : c ≠ tk) (hcx : w.heap[c]? = some (.cells (cvA x (-1)) 283)) (hz3 : out.length + (fillS x (markS x n ++ dgB (baseL x.letter) n)).length ≤ 4194304) : Calls Tryz.prog 212 #[ptr pr, ptr c] w (PartOut B0 pr tk tb g S Mc Pn w bs' args' (out ++ fillS x (markS x n ++ dgB (baseL x.letter) n))) := by
  have h0 : Pst B0 pr tk tb g S Mc w.drew bs args out av tv := h.below hM (show Below w.heap.size w w.drew from ⟨rfl, rfl, rfl, Nat.le_refl _, fun _ _ => rfl⟩)
  have hcx0 : w.drew.heap[c]? = some (.cells (cvA x (-1)) 283) := hcx
  have hnx := hnum h0
  have hot := fun u (hu : TabD u) => ofSigned_c (w := u) hx hl n hn hu
  have hpt := fun (u : World) (av' : Value) (hP : Pst B0 pr tk tb g S Mc u bs' args' out av' tv) => put_c hP.prt hP.row (fun b e => (hP.ne b e).1) (hM.base hP.mc) (fillS x (markS x n ++ dgB (baseL x.letter) n)) hz3
  obtain ⟨d0, d1, d2, d3, d4, d5, d6⟩ := box_cells hcx0
  have HM := Lib.hid (And.intro hM (And.intro hcx0 (And.intro hc hck)))
  clear hM h h0 hnum hcx hcx0 hc hck hz3 hx hl
  generalize hW : fillS x (markS x n ++ dgB (baseL x.letter) n) = W at *
  clear hW
  obtain ⟨xb, xl, xm, xp, xk, xz, xs, xw, xq⟩ := x
  unfold cvV cvA at hot
  simp only at hot d0 d1 d2 d3 d4 d5 d6
  go_enter Tryz.func212, Tryz.ntmps212
  go_region_with (first
    | (go_at_call 214; refine hnx.mono ?_; rintro e w2 (⟨rfl, hP⟩ | ⟨rfl, av', hP2, hK2⟩); (· exact ⟨rfl, .inl ⟨rfl, hP⟩⟩); have H2 := Lib.hid (And.intro hP2 hK2); have hTb := (HM.out.1.tab hP2.mc).1; have hou := hot w2 hTb; obtain ⟨e0, e1, e2, e3, e4, e5, e6⟩ := box_cells (hK2.ob HM.out.2.2.1 HM.out.2.2.2 HM.out.2.1); simp only at e0 e1 e2 e3 e4 e5 e6; clear hP2 hK2 hTb hot hnx)
    | (go_at_call 213; refine hou.mono ?_; rintro e w3 ⟨rfl, hB3⟩; have H3 := Lib.hid (H2.out.1.below HM.out.1 hB3); have HB := Lib.hid hB3; have hpq := hpt w3 av' H3.out; clear hB3 hou hpt)
    | (go_at_call 209; refine hpq.mono ?_; rintro e w4 ⟨⟨v, rfl⟩, tv', hp4, hr4, hs4, hT4⟩; have H4 := Lib.hid (H3.out.put HM.out.1 hp4 hr4 hs4 hT4); have HT4 := Lib.hid hT4; clear hp4 hr4 hs4 hT4 hpq))
  all_goals
    go_wp2_with fail
    go_end0
    exact .inr ⟨⟨_, rfl⟩, av', tv', H4.out.1, (KeepS.below (show Below w.heap.size w w.drew from ⟨rfl, rfl, rfl, Nat.le_refl _, fun _ _ => rfl⟩)).trans (H2.out.2.trans ((KeepS.below HB.out).trans (KeepS.of HT4.out H4.out.2)))⟩
end
end Go.Proofs.YteimilnecahifaaGreatDoor.Nm

namespace Go.Proofs.YteimilnecahifaaGreatDoor.Nm
open Go.Proofs.YteimilnecahifaaGreatDoor Go.Proofs.YteimilnecahifaaGreatDoor.Op
open Go.RowKit

section
variable {B0 pr tk tb g : Nat} {S : List Nat} {Bd : List ByteArray} {Mc : List ByteArray → List Nat → World → Prop} {Pn : World → Prop}
set_option maxRecDepth 100000 in
set_option maxHeartbeats 8000000 in
/-- A number without a sign: its closure. -/
theorem uns_c (hM : Mach B0 tk tb Bd Mc Pn) {w : World} {bs bs' args args' : List ByteArray} {out : List UInt8} {av tv : Value} (h : Pst B0 pr tk tb g S Mc w bs args out av tv) {x : Pc} (hx : OkPc x) (hl : x.letter = 120 ∨ x.letter = 111) {n : Nat} (hn : n ≤ 9223372036854775807) (hnum : Pst B0 pr tk tb g S Mc w.drew bs args out av tv → Calls Tryz.prog 214 #[ptr pr] w.drew fun e w' => e = .returned (.int .i64 (n : Int)) ∧ ∃ av', Pst B0 pr tk tb g S Mc w' bs' args' out av' tv ∧ KeepS S tk w.drew w') {c t b : Nat} (hc : c ∈ S) (hck : c ≠ tk) (hcx : w.heap[c]? = some (.cells (cvA x (-1)) 283)) (ht : t ∈ S) (htk : t ≠ tk) (htx : w.heap[t]? = some (.cells #[LetV] 23)) (hb : b ∈ S) (hbk : b ≠ tk) (hbx : w.heap[b]? = some (.cells #[.int .i64 (baseL x.letter : Int)] 3)) (hz3 : out.length + (fillS x (markS x n ++ dgB (baseL x.letter) n)).length ≤ 4194304) : Calls Tryz.prog 216 #[ptr pr, ptr t, ptr c, ptr b] w (PartOut B0 pr tk tb g S Mc Pn w bs' args' (out ++ fillS x (markS x n ++ dgB (baseL x.letter) n))) := by
  have h0 : Pst B0 pr tk tb g S Mc w.drew bs args out av tv := h.below hM (show Below w.heap.size w w.drew from ⟨rfl, rfl, rfl, Nat.le_refl _, fun _ _ => rfl⟩)
  have hcx0 : w.drew.heap[c]? = some (.cells (cvA x (-1)) 283) := hcx
  have htx0 : w.drew.heap[t]? = some (.cells #[LetV] 23) := htx
  have hbx0 : w.drew.heap[b]? = some (.cells #[.int .i64 (baseL x.letter : Int)] 3) := hbx
  have hnx := hnum h0
  have hot := fun u (hu : TabD u) => ofUns_c (w := u) hx hl n hn hu
  have hpt := fun (u : World) (av' : Value) (hP : Pst B0 pr tk tb g S Mc u bs' args' out av' tv) => put_c hP.prt hP.row (fun b e => (hP.ne b e).1) (hM.base hP.mc) (fillS x (markS x n ++ dgB (baseL x.letter) n)) hz3
  have HC : Hid (∀ w' : World, (w'.heap[c]? = some (.cells (cvA x (-1)) 283) ∧ w'.heap[t]? = some (.cells #[LetV] 23) ∧ w'.heap[b]? = some (.cells #[.int .i64 (baseL x.letter : Int)] 3)) → w'.cell? ⟨c, 0, none⟩ = some (.bool x.minus) ∧ w'.cell? ⟨c, 1, none⟩ = some (.bool x.plus) ∧ w'.cell? ⟨c, 2, none⟩ = some (.bool x.blank) ∧ w'.cell? ⟨c, 3, none⟩ = some (.bool x.zero) ∧ w'.cell? ⟨c, 4, none⟩ = some (.bool x.sharp) ∧ w'.cell? ⟨c, 5, none⟩ = some (.int .i64 (x.width : Int)) ∧ w'.cell? ⟨c, 6, none⟩ = some (.int .i64 (-1)) ∧ w'.cell? ⟨t, 0, none⟩ = some (.func (.func 205) #[] #[]) ∧ w'.cell? ⟨b, 0, none⟩ = some (.int .i64 (baseL x.letter : Int))) := Lib.hid fun w' h => by
    obtain ⟨d0, d1, d2, d3, d4, d5, d6⟩ := box_cells h.1
    exact ⟨d0, d1, d2, d3, d4, d5, d6, h_cell h.2.1 0 rfl, h_cell h.2.2 0 rfl⟩
  have HK : Hid (∀ w1 w2 : World, (w1.heap[c]? = some (.cells (cvA x (-1)) 283) ∧ w1.heap[t]? = some (.cells #[LetV] 23) ∧ w1.heap[b]? = some (.cells #[.int .i64 (baseL x.letter : Int)] 3)) → KeepS S tk w1 w2 → (w2.heap[c]? = some (.cells (cvA x (-1)) 283) ∧ w2.heap[t]? = some (.cells #[LetV] 23) ∧ w2.heap[b]? = some (.cells #[.int .i64 (baseL x.letter : Int)] 3))) := Lib.hid fun w1 w2 h k => ⟨k.ob hc hck h.1, k.ob ht htk h.2.1, k.ob hb hbk h.2.2⟩
  have HM := Lib.hid (And.intro (show w.drew.heap[c]? = some (.cells (cvA x (-1)) 283) ∧ w.drew.heap[t]? = some (.cells #[LetV] 23) ∧ w.drew.heap[b]? = some (.cells #[.int .i64 (baseL x.letter : Int)] 3) from ⟨hcx0, htx0, hbx0⟩) trivial)
  have HX := Lib.hid hM
  clear hM h h0 hnum hcx hcx0 hc hck hz3 hx hl htx htx0 ht htk hbx hbx0 hb hbk
  generalize hW : fillS x (markS x n ++ dgB (baseL x.letter) n) = W at *
  clear hW
  generalize baseL x.letter = BL at *
  have hli := fun s u => letid_c s u
  have hwr : IntKind.u64.wrap (n : Int) = (n : Int) := by rw [IntKind.wrap_u64]; omega
  clear hn
  obtain ⟨xb, xl, xm, xp, xk, xz, xs, xw, xq⟩ := x
  unfold cvV cvA at hot
  simp only at hot
  go_enter Tryz.func216, Tryz.ntmps216
  have k0 := HC.out w.drew HM.out.1
  go_region_held3 (fun w' => w'.cell? ⟨c, 0, none⟩ = some (.bool xm) ∧ w'.cell? ⟨c, 1, none⟩ = some (.bool xp) ∧ w'.cell? ⟨c, 2, none⟩ = some (.bool xk) ∧ w'.cell? ⟨c, 3, none⟩ = some (.bool xz) ∧ w'.cell? ⟨c, 4, none⟩ = some (.bool xs) ∧ w'.cell? ⟨c, 5, none⟩ = some (.int .i64 (xw : Int)) ∧ w'.cell? ⟨c, 6, none⟩ = some (.int .i64 (-1)) ∧ w'.cell? ⟨t, 0, none⟩ = some (.func (.func 205) #[] #[]) ∧ w'.cell? ⟨b, 0, none⟩ = some (.int .i64 (BL : Int))) (first | exact k0 | exact k2 | exact k3 | exact k4) (first
    | (go_at_call 214; refine hnx.mono ?_; rintro e w2 ⟨rfl, av', hP2, hK2⟩; have H2 := Lib.hid (And.intro hP2 hK2); have hTb := (HX.out.tab hP2.mc).1; have hou := hot w2 hTb; have HB2 := Lib.hid (HK.out _ _ HM.out.1 hK2); have k2 := HC.out w2 HB2.out; clear hP2 hK2 hTb hot hnx)
    | (go_at_call 217; refine hou.mono ?_; rintro e w3 ⟨rfl, hB3⟩; have H3 := Lib.hid (H2.out.1.below HX.out hB3); have HB := Lib.hid hB3; have HB3 := Lib.hid (HK.out _ _ HB2.out (KeepS.below hB3)); have k3 := HC.out w3 HB3.out; have hpq := hpt w3 av' H3.out; clear hB3 hou hpt)
    | (go_at_call 205; refine (hli _ _).mono ?_; rintro e w5 ⟨rfl, hw5⟩; rw [hw5]; clear hw5)
    | (go_at_call 209; refine hpq.mono ?_; rintro e w4 ⟨⟨v, rfl⟩, tv', hp4, hr4, hs4, hT4⟩; have H4 := Lib.hid (H3.out.put HX.out hp4 hr4 hs4 hT4); have HT4 := Lib.hid hT4; have k4 := HC.out w4 (HK.out _ _ HB3.out (KeepS.of hT4 H4.out.2)); clear hp4 hr4 hs4 hT4 hpq))
  all_goals
    go_wp2_with fail
    go_end0
    exact .inr ⟨⟨_, rfl⟩, av', tv', H4.out.1, (KeepS.below (show Below w.heap.size w w.drew from ⟨rfl, rfl, rfl, Nat.le_refl _, fun _ _ => rfl⟩)).trans (H2.out.2.trans ((KeepS.below HB.out).trans (KeepS.of HT4.out H4.out.2)))⟩
end
end Go.Proofs.YteimilnecahifaaGreatDoor.Nm

namespace Go.Proofs.YteimilnecahifaaGreatDoor.Nm
open Go.Proofs.YteimilnecahifaaGreatDoor

/-- A conversion of an argument that the laws ask for. -/
def OkOne (x : Pc) (a : ByteArray) : Prop := OkPc x ∧ (x.letter ≠ 115 → (∃ n : Nat, n ≤ 9223372036854775807 ∧ NumArg a.data.toList n) ∨ (a = bz [120] ∧ (x.letter = 100 ∨ x.letter = 105)))
def OkPass : List Pc → List ByteArray → Prop
  | [], _ => True
  | x :: l, args => if x.letter = 0 then OkPass l args else OkOne x (args.headD nothingS) ∧ OkPass l (args.drop 1)
def OkAll (l : List Pc) : Nat → List ByteArray → Prop
  | 0, _ => False
  | n + 1, args => OkPass l args ∧ ((onceS l args).took = false ∨ (onceS l args).left = [] ∨ OkAll l n (onceS l args).left)
theorem value_num {s : List UInt8} {n : Nat} (h : NumArg s n) (hn : n ≤ 9223372036854775807) : valueS s = some (n : Int) := by
  cases h using NumArg.byForm with
  | nil => rfl
  | ten n => exact value_ten n hn
  | hex n => exact value_hex n hn
  | oct n =>
    by_cases h0 : n = 0
    · subst h0; rfl
    · exact value_oct n (by omega) hn
/-- What is told of it. -/
theorem conv_ok {x : Pc} {a : ByteArray} (h : OkOne x a) : (x.letter = 115 ∧ convS x a = (wideS x a.data.toList, false, false)) ∨ (x.letter ≠ 115 ∧ ∃ n : Nat, n ≤ 9223372036854775807 ∧ ((NumArg a.data.toList n ∧ convS x a = (fillS x (markS x n ++ dgB (baseL x.letter) n), false, false)) ∨ (n = 0 ∧ a = bz [120] ∧ (x.letter = 100 ∨ x.letter = 105) ∧ convS x a = (fillS x (markS x n ++ dgB (baseL x.letter) n), true, false)))) := by
  obtain ⟨hx, h2⟩ := h
  by_cases hl : x.letter = 115
  · exact .inl ⟨hl, conv_s hx hl a⟩
  · refine .inr ⟨hl, ?_⟩
    rcases h2 hl with ⟨n, hn, ha⟩ | ⟨rfl, h3⟩
    · exact ⟨n, hn, .inl ⟨ha, conv_n hx hl hn (value_num ha hn)⟩⟩
    · exact ⟨0, by omega, .inr ⟨rfl, rfl, h3, conv_bad hx hl (by decide)⟩⟩
theorem conv_stop {x : Pc} {a : ByteArray} (h : OkOne x a) : (convS x a).2.2 = false := by
  rcases conv_ok h with ⟨_, e⟩ | ⟨_, n, _, ⟨_, e⟩ | ⟨_, _, _, e⟩⟩ <;> rw [e]
def convs : List Pc → Nat
  | [] => 0
  | x :: l => if x.letter = 0 then convs l else convs l + 1
theorem once_left : ∀ (l : List Pc) (args : List ByteArray), OkPass l args → (onceS l args).left = args.drop (convs l) ∧ ((onceS l args).took = false ↔ convs l = 0) ∧ (onceS l args).stop = false
  | [], args, _ => by simp [onceS, convs]
  | x :: l, args, h => by
    by_cases h0 : x.letter = 0
    · rw [OkPass, if_pos h0] at h
      obtain ⟨a, b, c⟩ := once_left l args h
      rw [onceS, if_pos h0, convs, if_pos h0]
      exact ⟨a, b, c⟩
    · rw [OkPass, if_neg h0] at h
      obtain ⟨a, b, c⟩ := once_left l (args.drop 1) h.2
      rw [onceS, if_neg h0, if_neg (by rw [conv_stop h.1]; decide), convs, if_neg h0]
      refine ⟨?_, by simp, c⟩
      show (onceS l (args.drop 1)).left = _
      rw [a, List.drop_drop, Nat.add_comm]
theorem once_byte {x : Pc} {l : List Pc} {args : List ByteArray} (h0 : x.letter = 0) : onceS (x :: l) args = ⟨x.b ++ (onceS l args).out, (onceS l args).bad, (onceS l args).left, (onceS l args).took, (onceS l args).stop⟩ := by
  rw [onceS, if_pos h0]
theorem once_conv {x : Pc} {l : List Pc} {args : List ByteArray} (h0 : x.letter ≠ 0) (h : OkOne x (args.headD nothingS)) : (onceS (x :: l) args).out = (convS x (args.headD nothingS)).1 ++ (onceS l (args.drop 1)).out ∧ (onceS (x :: l) args).bad = (if (convS x (args.headD nothingS)).2.1 then [args.headD nothingS] else []) ++ (onceS l (args.drop 1)).bad ∧ (onceS (x :: l) args).left = (onceS l (args.drop 1)).left := by
  rw [onceS, if_neg h0, if_neg (by rw [conv_stop h]; decide)]
  exact ⟨rfl, rfl, rfl⟩
theorem all_end {l : List Pc} {n : Nat} {args : List ByteArray} (h : (onceS l args).took = false ∨ (onceS l args).left = []) : allS l (n + 1) args = ((onceS l args).out, (onceS l args).bad) := by
  rw [allS, if_pos (.inr h)]
theorem all_on {l : List Pc} {n : Nat} {args : List ByteArray} (hs : (onceS l args).stop = false) (h1 : (onceS l args).took ≠ false) (h2 : (onceS l args).left ≠ []) : allS l (n + 1) args = ((onceS l args).out ++ (allS l n (onceS l args).left).1, (onceS l args).bad ++ (allS l n (onceS l args).left).2) := by
  rw [allS, if_neg (by
    rintro (h | h | h)
    · rw [hs] at h; cases h
    · exact h1 h
    · exact h2 h)]
end Go.Proofs.YteimilnecahifaaGreatDoor.Nm
