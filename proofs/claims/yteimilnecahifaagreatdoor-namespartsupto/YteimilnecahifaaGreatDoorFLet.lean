/- printf: the printer goes through the parts. -/
import Derived.Test.YteimilnecahifaaGreatDoorFOnce
import Derived.Deep.Cut
namespace Go.Proofs.YteimilnecahifaaGreatDoor.Nm
open Go.Proofs.YteimilnecahifaaGreatDoor Go.Proofs.YteimilnecahifaaGreatDoor.Op
open Go.RowKit

/-- Parts in a row. S0: the blocks in which they lie. -/
def PartsIn (w : World) (S0 : List Nat) (pv : Value) (l : List Pc) : Prop := ∃ pb cap, pv = .slice (some ⟨pb, 0, none⟩) l.length cap ∧ l.length ≤ cap ∧ cap ≤ 9223372036854775807 ∧ pb ∈ S0 ∧ pb < w.heap.size ∧ ∀ j (hj : j < l.length), ∃ v, w.cell? ⟨pb, j, none⟩ = some v ∧ PartAt w S0 v l[j]
section
variable {B0 pr tk tb g : Nat} {S S0 : List Nat} {Bd : List ByteArray} {Mc : List ByteArray → List Nat → World → Prop} {Pn : World → Prop}
theorem PartsIn.keep {w w' : World} {pv : Value} {l : List Pc} (h : PartsIn w S0 pv l) (hS : ∀ b ∈ S0, b ∈ S ∧ b ≠ tk) (hK : KeepS S tk w w') : PartsIn w' S0 pv l := by
  obtain ⟨pb, cap, rfl, h1, h2, h3, h4, h5⟩ := h
  obtain ⟨R, hT, hR⟩ := hK
  have hn : ∀ b ∈ S0, b ∉ R := fun b hb => hR b (hS b hb).1 (hS b hb).2
  refine ⟨pb, cap, rfl, h1, h2, h3, Nat.lt_of_lt_of_le h4 hT.size, fun j hj => ?_⟩
  obtain ⟨v, hv, hp⟩ := h5 j hj
  exact ⟨v, hT.cell hv (hn pb h3), hp.turn hT hn⟩
/-- What a part's call leaves: the rest of the pass comes to the same. -/
def PartNext (B0 pr tk tb g : Nat) (S : List Nat) (Mc : List ByteArray → List Nat → World → Prop) (Pn : World → Prop) (w : World) (bs args : List ByteArray) (out : List UInt8) (x : Pc) (l : List Pc) (e : Ending) (w' : World) : Prop :=
  (e = .panicked waitsP ∧ Pn w') ∨ ((∃ v, e = .returned v) ∧ ∃ bs' args' out' av' tv', Pst B0 pr tk tb g S Mc w' bs' args' out' av' tv' ∧ KeepS S tk w w' ∧ OkPass l args' ∧ out' ++ (onceS l args').out = out ++ (onceS (x :: l) args).out ∧ bs' ++ (onceS l args').bad = bs ++ (onceS (x :: l) args).bad ∧ (onceS l args').left = (onceS (x :: l) args).left ∧ (args' = args ∨ args' = args.drop 1))
theorem pass_conv {x : Pc} {l : List Pc} {args : List ByteArray} (h0 : x.letter ≠ 0) (h : OkPass (x :: l) args) : OkOne x (args.headD nothingS) ∧ OkPass l (args.drop 1) := by
  rw [OkPass, if_neg h0] at h
  exact h
theorem head_size {args : List ByteArray} (h : ∀ a ∈ args, a.size ≤ 2097152) : (args.headD nothingS).data.toList.length ≤ 2097152 := by
  cases args with
  | nil => exact Nat.zero_le _
  | cons a r => exact h a (by simp)
theorem bytes_next (hM : Mach B0 tk tb Bd Mc Pn) {w : World} {bs args : List ByteArray} {out : List UInt8} {av tv : Value} (h : Pst B0 pr tk tb g S Mc w bs args out av tv) (hS : ∀ b ∈ S0, b ∈ S ∧ b ≠ tk) {x : Pc} {l : List Pc} (hok : OkPass (x :: l) args) (h0 : x.letter = 0) {bb : Nat} {bv : Value} (hbb : bb ∈ S0) (hb : w.heap[bb]? = some (.cells #[bv] 27)) (hbv : ByL w S0 bv x.b) (hz : (out ++ (onceS (x :: l) args).out).length ≤ 4194304) : Calls Tryz.prog 188 #[ptr pr, ptr bb] w (PartNext B0 pr tk tb g S Mc Pn w bs args out x l) := by
  rw [once_byte h0] at hz
  rw [OkPass, if_pos h0] at hok
  refine (bytes_c h.prt h.row (fun b e => ⟨(h.ne b e).1, fun e2 => (h.ne b e).2.2 (e2 ▸ (hS bb hbb).1)⟩) (hM.base h.mc) hb hbv.1 (by simp only [List.length_append] at hz ⊢; omega)).mono ?_
  rintro e w' ⟨hv, tv', hp, hr, hs, hT⟩
  obtain ⟨q1, q2⟩ := h.put hM hp hr hs hT
  refine .inr ⟨hv, bs, args, out ++ x.b, av, tv', q1, KeepS.of hT q2, hok, ?_, ?_, ?_, .inl rfl⟩
  · rw [once_byte h0, List.append_assoc]
  · rw [once_byte h0]
  · rw [once_byte h0]
theorem text_next (hM : Mach B0 tk tb Bd Mc Pn) {w : World} {bs args : List ByteArray} {out : List UInt8} {av tv : Value} (h : Pst B0 pr tk tb g S Mc w bs args out av tv) (hS : ∀ b ∈ S0, b ∈ S ∧ b ≠ tk) {x : Pc} {l : List Pc} (hok : OkPass (x :: l) args) (hx : OkPc x) (hl : x.letter = 115) {c : Nat} (hc : c ∈ S0) (hcx : w.heap[c]? = some (.cells (cvA x (-1)) 283)) (hz : (out ++ (onceS (x :: l) args).out).length ≤ 4194304) (hn : args.length ≤ 2097152) (hsz : ∀ a ∈ args, a.size ≤ 2097152) : Calls Tryz.prog 211 #[ptr pr, ptr c] w (PartNext B0 pr tk tb g S Mc Pn w bs args out x l) := by
  obtain ⟨h1, h2⟩ := pass_conv hx.ne0 hok
  obtain ⟨o1, o2, o3⟩ := once_conv (l := l) hx.ne0 h1
  have hc1 : convS x (args.headD nothingS) = (wideS x (args.headD nothingS).data.toList, false, false) := conv_s hx hl _
  rw [hc1] at o1 o2
  rw [o1] at hz
  refine (text_c hM h hx (hS c hc).1 (hS c hc).2 hcx hn (head_size hsz) (by simp only [List.length_append] at hz ⊢; omega)).mono ?_
  rintro e w' (hP | ⟨hv, av', tv', hP, hK⟩)
  · exact .inl hP
  · refine .inr ⟨hv, bs, args.drop 1, _, av', tv', hP, hK, h2, ?_, ?_, o3.symm, .inr rfl⟩
    · rw [o1, List.append_assoc]
    · rw [o2]; rfl
theorem uns_next (hM : Mach B0 tk tb Bd Mc Pn) {w : World} {bs args : List ByteArray} {out : List UInt8} {av tv : Value} (h : Pst B0 pr tk tb g S Mc w bs args out av tv) (hS : ∀ b ∈ S0, b ∈ S ∧ b ≠ tk) {x : Pc} {l : List Pc} (hok : OkPass (x :: l) args) (hx : OkPc x) (hl : x.letter = 120 ∨ x.letter = 111) {c t b : Nat} (hc : c ∈ S0) (hcx : w.heap[c]? = some (.cells (cvA x (-1)) 283)) (ht : t ∈ S0) (htx : w.heap[t]? = some (.cells #[LetV] 23)) (hb : b ∈ S0) (hbx : w.heap[b]? = some (.cells #[.int .i64 (baseL x.letter : Int)] 3)) (hz : (out ++ (onceS (x :: l) args).out).length ≤ 4194304) (hn : args.length ≤ 2097152) (hsz : ∀ a ∈ args, a.size ≤ 2097152) : Calls Tryz.prog 216 #[ptr pr, ptr t, ptr c, ptr b] w (PartNext B0 pr tk tb g S Mc Pn w bs args out x l) := by
  obtain ⟨h1, h2⟩ := pass_conv hx.ne0 hok
  obtain ⟨o1, o2, o3⟩ := once_conv (l := l) hx.ne0 h1
  rcases conv_ok h1 with ⟨e, _⟩ | ⟨_, n, hn9, ⟨hna, hc1⟩ | ⟨_, _, e, _⟩⟩
  · rw [e] at hl; exact absurd hl (by decide)
  · rw [hc1] at o1 o2
    rw [o1] at hz
    refine (uns_c hM h hx hl hn9 (fun h0 => number_ok hM h0 hna hn9 hn (head_size hsz)) (hS c hc).1 (hS c hc).2 hcx (hS t ht).1 (hS t ht).2 htx (hS b hb).1 (hS b hb).2 hbx (by simp only [List.length_append] at hz ⊢; omega)).mono ?_
    rintro e w' (hP | ⟨hv, av', tv', hP, hK⟩)
    · exact .inl hP
    · refine .inr ⟨hv, bs, args.drop 1, _, av', tv', hP, hK, h2, ?_, ?_, o3.symm, .inr rfl⟩
      · rw [o1, List.append_assoc]
      · rw [o2]; rfl
  · rcases hl with e2 | e2 <;> rw [e2] at e <;> exact absurd e (by decide)
theorem sgn_next (hM : Mach B0 tk tb Bd Mc Pn) {w : World} {bs args : List ByteArray} {out : List UInt8} {av tv : Value} (h : Pst B0 pr tk tb g S Mc w bs args out av tv) (hS : ∀ b ∈ S0, b ∈ S ∧ b ≠ tk) {x : Pc} {l : List Pc} (hok : OkPass (x :: l) args) (hx : OkPc x) (hl : x.letter = 100 ∨ x.letter = 105) {c : Nat} (hc : c ∈ S0) (hcx : w.heap[c]? = some (.cells (cvA x (-1)) 283)) (hz : (out ++ (onceS (x :: l) args).out).length ≤ 4194304) (hn : args.length ≤ 2097151) (hsz : ∀ a ∈ args, a.size ≤ 2097152) {rest : List ByteArray} (hbd : bs ++ (onceS (x :: l) args).bad ++ rest = Bd) : Calls Tryz.prog 212 #[ptr pr, ptr c] w (PartNext B0 pr tk tb g S Mc Pn w bs args out x l) := by
  obtain ⟨h1, h2⟩ := pass_conv hx.ne0 hok
  obtain ⟨o1, o2, o3⟩ := once_conv (l := l) hx.ne0 h1
  rcases conv_ok h1 with ⟨e, _⟩ | ⟨_, n, hn9, ⟨hna, hc1⟩ | ⟨rfl, ha, _, hc1⟩⟩
  · rw [e] at hl; exact absurd hl (by decide)
  · rw [hc1] at o1 o2
    rw [o1] at hz
    refine (sgn_c hM h hx hl hn9 (fun h0 => (number_ok hM h0 hna hn9 (by omega) (head_size hsz)).mono fun e w' q => .inr q) (hS c hc).1 (hS c hc).2 hcx (by simp only [List.length_append] at hz ⊢; omega)).mono ?_
    rintro e w' (hP | ⟨hv, av', tv', hP, hK⟩)
    · exact .inl hP
    · refine .inr ⟨hv, bs, args.drop 1, _, av', tv', hP, hK, h2, ?_, ?_, o3.symm, .inr rfl⟩
      · rw [o1, List.append_assoc]
      · rw [o2]; rfl
  · obtain ⟨r, rfl⟩ : ∃ r, args = bz [120] :: r := by
      cases args with
      | nil => exact absurd ha (by decide)
      | cons a r => exact ⟨r, by rw [show a = bz [120] from ha]⟩
    rw [hc1] at o1 o2
    rw [o1] at hz
    rw [o2] at hbd
    have hbd2 : bs ++ bz [120] :: ((onceS l ((bz [120] :: r).drop 1)).bad ++ rest) = Bd := by
      rw [← hbd]
      simp
    refine (sgn_c hM h hx hl hn9 (fun h0 => number_bad hM h0 hbd2 (by simp at hn; omega)) (hS c hc).1 (hS c hc).2 hcx (by simp only [List.length_append] at hz ⊢; omega)).mono ?_
    rintro e w' (hP | ⟨hv, av', tv', hP, hK⟩)
    · exact .inl hP
    · refine .inr ⟨hv, bs ++ [bz [120]], r, _, av', tv', hP, hK, h2, ?_, ?_, o3.symm, .inr rfl⟩
      · rw [o1, List.append_assoc]; rfl
      · rw [o2]
        simp
end
end Go.Proofs.YteimilnecahifaaGreatDoor.Nm

namespace Go.Proofs.YteimilnecahifaaGreatDoor.Nm
open Go.Proofs.YteimilnecahifaaGreatDoor Go.Proofs.YteimilnecahifaaGreatDoor.Op
open Go.RowKit

def argsLen (w : World) (pr : Nat) : Nat := match w.cell? ⟨pr, 0, none⟩ with
  | some (.slice _ n _) => n
  | _ => 0
section
variable {B0 pr tk tb g : Nat} {S S0 : List Nat} {Bd : List ByteArray} {Mc : List ByteArray → List Nat → World → Prop} {Pn : World → Prop}
theorem args_cell {w : World} {bs args : List ByteArray} {out : List UInt8} {av tv : Value} (h : Pst B0 pr tk tb g S Mc w bs args out av tv) : (∃ x c, w.cell? ⟨pr, 0, none⟩ = some (.slice x args.length c)) ∧ argsLen w pr = args.length := by
  have hs : ∃ x c, av = .slice x args.length c := strs_slice h.arg.1
  obtain ⟨x, c, rfl⟩ := hs
  have hc : w.cell? ⟨pr, 0, none⟩ = some (.slice x args.length c) := h_cell h.prt 0 rfl
  exact ⟨⟨x, c, hc⟩, by rw [argsLen, hc]⟩
/-- The state between two passes: n passes at most are left, all comes to TO and Bd. -/
structure Pass (B0 pr tk tb g : Nat) (S S0 : List Nat) (Mc : List ByteArray → List Nat → World → Prop) (w0 : World) (pv : Value) (l : List Pc) (TO : List UInt8) (Bd : List ByteArray) (w : World) (n : Nat) (bs args : List ByteArray) (out : List UInt8) (av tv : Value) : Prop where
  st : Pst B0 pr tk tb g S Mc w bs args out av tv
  pt : PartsIn w S0 pv l
  ok : OkAll l n args
  out : out ++ (allS l n args).1 = TO
  bad : bs ++ (allS l n args).2 = Bd
  kp : KeepS S tk w0 w
  len : args.length ≤ 2097151
  siz : ∀ a ∈ args, a.size ≤ 2097152
/-- The state within one. -/
structure Within (B0 pr tk tb g : Nat) (S S0 : List Nat) (Mc : List ByteArray → List Nat → World → Prop) (w0 : World) (pv : Value) (l : List Pc) (O1 : List UInt8) (B1 L1 A1 : List ByteArray) (w : World) (k : Nat) (bs args : List ByteArray) (out : List UInt8) (av tv : Value) : Prop where
  st : Pst B0 pr tk tb g S Mc w bs args out av tv
  pt : PartsIn w S0 pv l
  ok : OkPass (l.drop k) args
  out : out ++ (onceS (l.drop k) args).out = O1
  bad : bs ++ (onceS (l.drop k) args).bad = B1
  left : (onceS (l.drop k) args).left = L1
  kp : KeepS S tk w0 w
  len : args.length ≤ 2097151
  siz : ∀ a ∈ args, a.size ≤ 2097152
  cut : ∃ m, args = A1.drop m
theorem drop_sub {A : Type} {l : List A} {p : A → Prop} (h : ∀ a ∈ l, p a) (n : Nat) : ∀ a ∈ l.drop n, p a := fun a ha => h a (List.mem_of_mem_drop ha)
set_option maxRecDepth 100000 in
set_option maxHeartbeats 8000000 in
theorem go_c (hM : Mach B0 tk tb Bd Mc Pn) (hS : ∀ b ∈ S0, b ∈ S ∧ b ≠ tk) {w : World} {bs args : List ByteArray} {out : List UInt8} {av tv pv : Value} {l : List Pc} {n : Nat} {TO : List UInt8} (hp : Pass B0 pr tk tb g S S0 Mc w pv l TO Bd w n bs args out av tv) (hz : TO.length ≤ 4194304) : Calls Tryz.prog 120 #[ptr pr, pv] w fun e w' => (e = .panicked waitsP ∧ Pn w') ∨ ((∃ v, e = .returned v) ∧ ∃ args' av' tv', Pst B0 pr tk tb g S Mc w' Bd args' TO av' tv' ∧ KeepS S tk w w') := by
  obtain ⟨pb, cap, rfl, hcap⟩ : ∃ pb cap, pv = .slice (some ⟨pb, 0, none⟩) l.length cap ∧ l.length ≤ cap ∧ cap ≤ 9223372036854775807 := by
    obtain ⟨pb, cap, e, h1, h2, _⟩ := hp.pt
    exact ⟨pb, cap, e, h1, h2⟩
  have HP := Lib.hid (And.intro hM (And.intro hS (And.intro hp hz)))
  clear hM hS hp hz
  obtain ⟨hcap1, hcap2⟩ := hcap
  go_enter Tryz.func120, Tryz.ntmps120
  go_wp2
  go_loopw [4] (fun _ wr => ∃ n bs args out av tv, Hid (Pass B0 pr tk tb g S S0 Mc w (.slice (some ⟨pb, 0, none⟩) l.length cap) l TO Bd wr n bs args out av tv)) (fun _ wr => argsLen wr pr)
  case atStart => exact ⟨n, bs, args, out, av, tv, Lib.hid HP.out.2.2.1⟩
  case round =>
    obtain ⟨n1, bs1, args1, out1, av1, tv1, H1⟩ := hrel
    obtain ⟨⟨x1, c1, hc1⟩, hal⟩ := args_cell H1.out.st
    obtain ⟨n2, rfl⟩ : ∃ n2, n1 = n2 + 1 := by
      cases n1 with
      | zero => exact absurd H1.out.ok (by simp [OkAll])
      | succ n2 => exact ⟨n2, rfl⟩
    have HW : Hid (Within B0 pr tk tb g S S0 Mc w (.slice (some ⟨pb, 0, none⟩) l.length cap) l (out1 ++ (onceS l args1).out) (bs1 ++ (onceS l args1).bad) (onceS l args1).left args1 wr 0 bs1 args1 out1 av1 tv1) :=
      Lib.hid ⟨H1.out.st, H1.out.pt, H1.out.ok.1, rfl, rfl, rfl, H1.out.kp, H1.out.len, H1.out.siz, 0, rfl⟩
    obtain ⟨LO, LB, hTO, hBd⟩ : ∃ LO LB, out1 ++ (onceS l args1).out ++ LO = TO ∧ bs1 ++ (onceS l args1).bad ++ LB = Bd := by
      obtain ⟨_, _, hst⟩ := once_left l args1 H1.out.ok.1
      have ho := H1.out.out
      have hb := H1.out.bad
      by_cases hend : (onceS l args1).took = false ∨ (onceS l args1).left = []
      · rw [all_end hend] at ho hb
        exact ⟨[], [], by simpa using ho, by simpa using hb⟩
      · rw [all_on hst (fun h => hend (.inl h)) (fun h => hend (.inr h))] at ho hb
        exact ⟨_, _, by rw [List.append_assoc]; exact ho, by rw [List.append_assoc]; exact hb⟩
    have HE := Lib.hid (And.intro hTO hBd)
    have HLo := Lib.hid hal
    clear hTO hBd hal
    go_wp2
    go_loopw [14] (fun iv wr2 => ∃ k bs args out av tv, k ≤ l.length ∧ iv = .int .i64 ((k : Nat) : Int) ∧ Hid (Within B0 pr tk tb g S S0 Mc w (.slice (some ⟨pb, 0, none⟩) l.length cap) l (out1 ++ (onceS l args1).out) (bs1 ++ (onceS l args1).bad) (onceS l args1).left args1 wr2 k bs args out av tv)) (fun iv _ => l.length - (intOf iv).toNat)
    case atStart => exact ⟨0, bs1, args1, out1, av1, tv1, by omega, rfl, HW⟩
    case round =>
      obtain ⟨k, bs2, args2, out2, av2, tv2, hk, rfl, H2⟩ := hrel
      by_cases hlt : k < l.length
      · have he : l.drop k = l[k] :: l.drop (k + 1) := List.drop_eq_getElem_cons hlt
        have hok2 := H2.out.ok
        have ho2 := H2.out.out
        have hb2 := H2.out.bad
        have hl2 := H2.out.left
        rw [he] at hok2 ho2 hb2 hl2
        have hz2 : (out2 ++ (onceS (l[k] :: l.drop (k + 1)) args2).out).length ≤ 4194304 := by
          rw [ho2]
          have h1 := congrArg List.length HE.out.1
          have h2 := HP.out.2.2.2
          simp only [List.length_append] at h1 ⊢
          omega
        have hbd2 : bs2 ++ (onceS (l[k] :: l.drop (k + 1)) args2).bad ++ LB = Bd := by rw [hb2]; exact HE.out.2
        have HF : Hid (∀ w3 bs3 args3 out3 av3 tv3, Pst B0 pr tk tb g S Mc w3 bs3 args3 out3 av3 tv3 → KeepS S tk wr w3 → OkPass (l.drop (k + 1)) args3 → out3 ++ (onceS (l.drop (k + 1)) args3).out = out2 ++ (onceS (l[k] :: l.drop (k + 1)) args2).out → bs3 ++ (onceS (l.drop (k + 1)) args3).bad = bs2 ++ (onceS (l[k] :: l.drop (k + 1)) args2).bad → (onceS (l.drop (k + 1)) args3).left = (onceS (l[k] :: l.drop (k + 1)) args2).left → (args3 = args2 ∨ args3 = args2.drop 1) → Within B0 pr tk tb g S S0 Mc w (.slice (some ⟨pb, 0, none⟩) l.length cap) l (out1 ++ (onceS l args1).out) (bs1 ++ (onceS l args1).bad) (onceS l args1).left args1 w3 (k + 1) bs3 args3 out3 av3 tv3) := Lib.hid fun w3 bs3 args3 out3 av3 tv3 q1 q2 q3 q4 q5 q6 q7 =>
          ⟨q1, H2.out.pt.keep HP.out.2.1 q2, q3, q4.trans ho2, q5.trans hb2, q6.trans hl2, H2.out.kp.trans q2, by
            rcases q7 with rfl | rfl
            · exact H2.out.len
            · have := H2.out.len
              rw [List.length_drop]
              omega, by
            rcases q7 with rfl | rfl
            · exact H2.out.siz
            · exact drop_sub H2.out.siz 1, by
            obtain ⟨m, hm⟩ := H2.out.cut
            rcases q7 with rfl | rfl
            · exact ⟨m, hm⟩
            · exact ⟨m + 1, by rw [hm, List.drop_drop]⟩⟩
        clear ho2 hb2 hl2 he
        obtain ⟨v, hv, hpa⟩ : ∃ v, wr.cell? ⟨pb, k, none⟩ = some v ∧ PartAt wr S0 v l[k] := by
          obtain ⟨pb2, cap2, e, _, _, _, _, h5⟩ := H2.out.pt
          cases e
          exact h5 k hlt
        generalize l[k] = x at *
        rcases hpa with ⟨h0, bb, hbb, bv, rfl, hb1, hb2⟩ | ⟨hx, c, hc, hcx, ⟨hl, rfl⟩ | ⟨hl, rfl⟩ | ⟨hl, t, ht, b, hb, htx, hbx, rfl⟩⟩
        · have hcall := bytes_next HP.out.1 H2.out.st HP.out.2.1 hok2 h0 hbb hb1 hb2 hz2
          clear hok2 hz2 hbd2
          go_wp2_with (go_at_call 188; refine hcall.mono ?_; rintro e w3 (⟨rfl, hP⟩ | ⟨⟨v3, rfl⟩, bs3, args3, out3, av3, tv3, hst3, hK3, hok3, ho3, hb3, hl3, ha3⟩); (· exact ⟨rfl, .inl ⟨rfl, hP⟩⟩); have c3 : w3.cell? ⟨pr, 2, none⟩ = some (.bool false) := h_cell hst3.prt 2 rfl; have hlt3 := h_lt hst3.prt; have HN := Lib.hid (HF.out w3 bs3 args3 out3 av3 tv3 hst3 hK3 hok3 ho3 hb3 hl3 ha3); clear hst3 hK3 hok3 ho3 hb3 hl3 ha3 hcall)
          exact ⟨⟨k + 1, bs3, args3, out3, av3, tv3, by omega, by go_num, HN⟩, by simp [intOf]; omega⟩
        · have hcall := text_next HP.out.1 H2.out.st HP.out.2.1 hok2 hx hl hc hcx hz2 (by have := H2.out.len; omega) H2.out.siz
          clear hok2 hz2 hbd2
          go_wp2_with (go_at_call 211; refine hcall.mono ?_; rintro e w3 (⟨rfl, hP⟩ | ⟨⟨v3, rfl⟩, bs3, args3, out3, av3, tv3, hst3, hK3, hok3, ho3, hb3, hl3, ha3⟩); (· exact ⟨rfl, .inl ⟨rfl, hP⟩⟩); have c3 : w3.cell? ⟨pr, 2, none⟩ = some (.bool false) := h_cell hst3.prt 2 rfl; have hlt3 := h_lt hst3.prt; have HN := Lib.hid (HF.out w3 bs3 args3 out3 av3 tv3 hst3 hK3 hok3 ho3 hb3 hl3 ha3); clear hst3 hK3 hok3 ho3 hb3 hl3 ha3 hcall)
          exact ⟨⟨k + 1, bs3, args3, out3, av3, tv3, by omega, by go_num, HN⟩, by simp [intOf]; omega⟩
        · have hcall := sgn_next HP.out.1 H2.out.st HP.out.2.1 hok2 hx hl hc hcx hz2 H2.out.len H2.out.siz hbd2
          clear hok2 hz2 hbd2
          go_wp2_with (go_at_call 212; refine hcall.mono ?_; rintro e w3 (⟨rfl, hP⟩ | ⟨⟨v3, rfl⟩, bs3, args3, out3, av3, tv3, hst3, hK3, hok3, ho3, hb3, hl3, ha3⟩); (· exact ⟨rfl, .inl ⟨rfl, hP⟩⟩); have c3 : w3.cell? ⟨pr, 2, none⟩ = some (.bool false) := h_cell hst3.prt 2 rfl; have hlt3 := h_lt hst3.prt; have HN := Lib.hid (HF.out w3 bs3 args3 out3 av3 tv3 hst3 hK3 hok3 ho3 hb3 hl3 ha3); clear hst3 hK3 hok3 ho3 hb3 hl3 ha3 hcall)
          exact ⟨⟨k + 1, bs3, args3, out3, av3, tv3, by omega, by go_num, HN⟩, by simp [intOf]; omega⟩
        · have hcall := uns_next HP.out.1 H2.out.st HP.out.2.1 hok2 hx hl hc hcx ht htx hb hbx hz2 (by have := H2.out.len; omega) H2.out.siz
          clear hok2 hz2 hbd2
          go_wp2_with (go_at_call 216; refine hcall.mono ?_; rintro e w3 (⟨rfl, hP⟩ | ⟨⟨v3, rfl⟩, bs3, args3, out3, av3, tv3, hst3, hK3, hok3, ho3, hb3, hl3, ha3⟩); (· exact ⟨rfl, .inl ⟨rfl, hP⟩⟩); have c3 : w3.cell? ⟨pr, 2, none⟩ = some (.bool false) := h_cell hst3.prt 2 rfl; have hlt3 := h_lt hst3.prt; have HN := Lib.hid (HF.out w3 bs3 args3 out3 av3 tv3 hst3 hK3 hok3 ho3 hb3 hl3 ha3); clear hst3 hK3 hok3 ho3 hb3 hl3 ha3 hcall)
          exact ⟨⟨k + 1, bs3, args3, out3, av3, tv3, by omega, by go_num, HN⟩, by simp [intOf]; omega⟩
      · have hkl : k = l.length := by omega
        subst hkl
        obtain ⟨⟨x2, c2, hc2⟩, hal2⟩ := args_cell H2.out.st
        have hlt2 := h_lt H2.out.st.prt
        have hoe : onceS (l.drop l.length) args2 = ⟨[], [], args2, false, false⟩ := by rw [List.drop_length]; rfl
        have ho2 := H2.out.out
        have hb2 := H2.out.bad
        have hl2 := H2.out.left
        rw [hoe] at ho2 hb2 hl2
        simp only [List.append_nil] at ho2 hb2 hl2
        obtain ⟨w1, w2, w3⟩ := once_left l args1 H1.out.ok.1
        have hlen : args2.length = args1.length - convs l := by rw [hl2, w1, List.length_drop]
        have HFin : Hid (((onceS l args1).took = false ∨ (onceS l args1).left = []) → Pst B0 pr tk tb g S Mc wr Bd args2 TO av2 tv2) := Lib.hid fun hend => by
          have ho := H1.out.out
          have hb := H1.out.bad
          rw [all_end hend] at ho hb
          have := H2.out.st
          rw [ho2, hb2, ho, hb] at this
          exact this
        clear hoe
        by_cases hz0 : args2.length = 0
        · have e0 : ((args2.length : Int) == 0) = true := by rw [beq_iff_eq]; omega
          have HG := Lib.hid (HFin.out (.inr (by rw [← hl2]; exact List.length_eq_zero_iff.1 hz0)))
          clear ho2 hb2 hl2 hlen w1 w2 w3 hal2 hz0 hlt
          go_wp2
          refine bodyPost_ret (results_none rfl _ _ _) rfl ?_
          exact .inr ⟨⟨_, rfl⟩, args2, av2, tv2, HG.out, H2.out.kp⟩
        · have e0 : ((args2.length : Int) == 0) = false := by rw [beq_eq_false_iff_ne]; omega
          by_cases hsame : args2.length = args1.length
          · have e1 : ((args2.length : Int) == (args1.length : Int)) = true := by rw [beq_iff_eq]; omega
            have HG := Lib.hid (HFin.out (.inl (w2.2 (by omega))))
            clear ho2 hb2 hl2 hlen w1 w2 w3 hal2 hz0 hsame hlt
            go_wp2
            refine bodyPost_ret (results_none rfl _ _ _) rfl ?_
            exact .inr ⟨⟨_, rfl⟩, args2, av2, tv2, HG.out, H2.out.kp⟩
          · have e1 : ((args2.length : Int) == (args1.length : Int)) = false := by rw [beq_eq_false_iff_ne]; omega
            have ht1 : (onceS l args1).took ≠ false := fun h => hsame (by have := w2.1 h; omega)
            have ht2 : (onceS l args1).left ≠ [] := fun h => hz0 (by rw [hl2, h]; rfl)
            have HN : Hid (Pass B0 pr tk tb g S S0 Mc w (.slice (some ⟨pb, 0, none⟩) l.length cap) l TO Bd wr n2 bs2 args2 out2 av2 tv2) := Lib.hid <| by
              have ho := H1.out.out
              have hb := H1.out.bad
              rw [all_on w3 ht1 ht2] at ho hb
              have hk3 := (H1.out.ok.2.resolve_left ht1).resolve_left ht2
              rw [← hl2] at ho hb hk3
              exact ⟨H2.out.st, H2.out.pt, hk3, by rw [ho2, List.append_assoc]; exact ho, by rw [hb2, List.append_assoc]; exact hb, H2.out.kp, H2.out.len, H2.out.siz⟩
            have HL : Hid (args2.length < args1.length) := Lib.hid (by omega)
            have HA := Lib.hid hal2
            clear ho2 hb2 hl2 hlen w1 w2 w3 hal2 hz0 hsame hlt ht1 ht2
            go_wp2
            exact ⟨⟨n2, bs2, args2, out2, av2, tv2, HN⟩, by rw [HLo.out, HA.out]; exact HL.out⟩
end
end Go.Proofs.YteimilnecahifaaGreatDoor.Nm

namespace Go.Proofs.YteimilnecahifaaGreatDoor.Nm
open Go.Proofs.YteimilnecahifaaGreatDoor Go.Proofs.YteimilnecahifaaGreatDoor.Op
open Go.RowKit

theorem al_old2 {w : World} {b : Nat} {o : Obj} (p : Obj) (h : w.heap[b]? = some o) : (w.alloc p).heap[b]? = some o := by
  show (w.heap.push p)[b]? = some o
  rw [Array.getElem?_push]
  rw [if_neg (by have := h_lt h; omega)]
  exact h
theorem store_let (V : World) (f : Fn) (t : Nat) : (store ⟨V.heap.size, 0, none⟩ (.func f #[] #[])).run Tryz.prog (V.alloc (.cells #[.nilFunc] t)) = .ok () (V.alloc (.cells #[.func f #[] #[]] t)) := by
  have hn : (V.alloc (.cells #[.nilFunc] t)).heap[V.heap.size]? = some (.cells #[.nilFunc] t (0, 0)) := al_new _ _
  rw [store_fn f #[] #[] (h_cell hn 0 rfl) (h_fz hn 0)]
  simp [go_sem]
/-- The boxes of a conversion's closure. -/
structure LetBox (w U : World) (x : Pc) : Prop where
  c : U.heap[w.heap.size]? = some (.cells (cvA x (-1)) 283)
  b : U.heap[w.heap.size + 1]? = some (.cells #[.int .i64 10] 3)
  t : U.heap[w.heap.size + 2]? = some (.cells #[LetV] 23)
  below : Below w.heap.size w U
  size : U.heap.size = w.heap.size + 3
theorem let_box (w : World) (x : Pc) : LetBox w (((w.alloc (.cells (cvA x (-1)) 283)).alloc (.cells #[.int .i64 10] 3)).alloc (.cells #[LetV] 23)) x := by
  have s1 : (w.alloc (.cells (cvA x (-1)) 283)).heap.size = w.heap.size + 1 := by simp
  have s2 : ((w.alloc (.cells (cvA x (-1)) 283)).alloc (.cells #[.int .i64 10] 3)).heap.size = w.heap.size + 2 := by simp
  refine ⟨al_old2 _ (al_old2 _ (al_new _ _)), al_old2 _ ?_, ?_, ((((Below.refl _ w).alloc (Nat.le_refl _) _).alloc (by omega) _).alloc (by omega) _), by simp⟩
  · rw [← s1]; exact al_new _ _
  · rw [← s2]; exact al_new _ _
theorem LetBox.typed {w U : World} {x : Pc} (h : LetBox w U x) : ∀ b ∈ [w.heap.size, w.heap.size + 1, w.heap.size + 2], ∃ cs T, U.heap[b]? = some (.cells cs T) ∧ T ≠ 254 := fun b hb => by
  simp only [List.mem_cons, List.not_mem_nil, or_false] at hb
  rcases hb with rfl | rfl | rfl
  · exact ⟨_, _, h.c, by decide⟩
  · exact ⟨_, _, h.b, by decide⟩
  · exact ⟨_, _, h.t, by decide⟩
/-- What is left of it. -/
def LetOut (w : World) (x : Pc) (e : Ending) (w' : World) : Prop := ∃ v, e = .returned v ∧ (∃ f y z, v = .func f y z) ∧ PartAt w' [w.heap.size, w.heap.size + 1, w.heap.size + 2] v x ∧ Below w.heap.size w w' ∧ w'.heap.size = w.heap.size + 3 ∧ ∀ b ∈ [w.heap.size, w.heap.size + 1, w.heap.size + 2], ∃ cs T, w'.heap[b]? = some (.cells cs T) ∧ T ≠ 254
set_option maxRecDepth 100000 in
set_option maxHeartbeats 4000000 in
theorem byLetter_s {x : Pc} (h : OkPc x) (hl : x.letter = 115) (w : World) : Calls Tryz.prog 187 #[cvV x (-1), .int .u8 115] w (LetOut w x) := by
  have H := Lib.hid (And.intro h hl)
  clear h hl
  have hLB := let_box w x
  go_enter Tryz.func187, Tryz.ntmps187
  unfold cvV
  go_upto_region 2 with fail
  have hz : ((w.alloc (.cells (cvA x (-1)) 283)).alloc (.cells #[.int .i64 10] 3)).heap.size = w.heap.size + 2 := by simp
  have hsf := store_let ((w.alloc (.cells (cvA x (-1)) 283)).alloc (.cells #[.int .i64 10] 3)) (.func 205) 23
  rw [hz] at hsf
  clear hz
  go_upto_region 3 with fail
  unfold LetV at hLB
  generalize ((w.alloc (.cells (cvA x (-1)) 283)).alloc (.cells #[.int .i64 10] 3)).alloc (.cells #[.func (.func 205) #[] #[]] 23) = U at hLB ⊢
  have HL := Lib.hid hLB
  have cb : U.cell? ⟨w.heap.size + 1, 0, none⟩ = some (.int .i64 10) := h_cell hLB.b 0 rfl
  have zb := h_fz hLB.b 0
  have hlt := h_lt hLB.b
  clear hLB hsf
  go_wp2
  go_ret
  exact ⟨_, rfl, ⟨_, _, _, rfl⟩, .inr ⟨H.out.1, w.heap.size, by simp, HL.out.c, .inl ⟨H.out.2, rfl⟩⟩, HL.out.below, HL.out.size, HL.out.typed⟩
set_option maxRecDepth 100000 in
set_option maxHeartbeats 4000000 in
theorem byLetter_d {x : Pc} (h : OkPc x) (hl : x.letter = 100) (w : World) : Calls Tryz.prog 187 #[cvV x (-1), .int .u8 100] w (LetOut w x) := by
  have H := Lib.hid (And.intro h hl)
  clear h hl
  have hLB := let_box w x
  go_enter Tryz.func187, Tryz.ntmps187
  unfold cvV
  go_upto_region 2 with fail
  have hz : ((w.alloc (.cells (cvA x (-1)) 283)).alloc (.cells #[.int .i64 10] 3)).heap.size = w.heap.size + 2 := by simp
  have hsf := store_let ((w.alloc (.cells (cvA x (-1)) 283)).alloc (.cells #[.int .i64 10] 3)) (.func 205) 23
  rw [hz] at hsf
  clear hz
  go_upto_region 3 with fail
  unfold LetV at hLB
  generalize ((w.alloc (.cells (cvA x (-1)) 283)).alloc (.cells #[.int .i64 10] 3)).alloc (.cells #[.func (.func 205) #[] #[]] 23) = U at hLB ⊢
  have HL := Lib.hid hLB
  have cb : U.cell? ⟨w.heap.size + 1, 0, none⟩ = some (.int .i64 10) := h_cell hLB.b 0 rfl
  have zb := h_fz hLB.b 0
  have hlt := h_lt hLB.b
  clear hLB hsf
  go_wp2
  go_ret
  exact ⟨_, rfl, ⟨_, _, _, rfl⟩, .inr ⟨H.out.1, w.heap.size, by simp, HL.out.c, .inr (.inl ⟨by rw [H.out.2]; decide, rfl⟩)⟩, HL.out.below, HL.out.size, HL.out.typed⟩
set_option maxRecDepth 100000 in
set_option maxHeartbeats 4000000 in
theorem byLetter_i {x : Pc} (h : OkPc x) (hl : x.letter = 105) (w : World) : Calls Tryz.prog 187 #[cvV x (-1), .int .u8 105] w (LetOut w x) := by
  have H := Lib.hid (And.intro h hl)
  clear h hl
  have hLB := let_box w x
  go_enter Tryz.func187, Tryz.ntmps187
  unfold cvV
  go_upto_region 2 with fail
  have hz : ((w.alloc (.cells (cvA x (-1)) 283)).alloc (.cells #[.int .i64 10] 3)).heap.size = w.heap.size + 2 := by simp
  have hsf := store_let ((w.alloc (.cells (cvA x (-1)) 283)).alloc (.cells #[.int .i64 10] 3)) (.func 205) 23
  rw [hz] at hsf
  clear hz
  go_upto_region 3 with fail
  unfold LetV at hLB
  generalize ((w.alloc (.cells (cvA x (-1)) 283)).alloc (.cells #[.int .i64 10] 3)).alloc (.cells #[.func (.func 205) #[] #[]] 23) = U at hLB ⊢
  have HL := Lib.hid hLB
  have cb : U.cell? ⟨w.heap.size + 1, 0, none⟩ = some (.int .i64 10) := h_cell hLB.b 0 rfl
  have zb := h_fz hLB.b 0
  have hlt := h_lt hLB.b
  clear hLB hsf
  go_wp2
  go_ret
  exact ⟨_, rfl, ⟨_, _, _, rfl⟩, .inr ⟨H.out.1, w.heap.size, by simp, HL.out.c, .inr (.inl ⟨by rw [H.out.2]; decide, rfl⟩)⟩, HL.out.below, HL.out.size, HL.out.typed⟩
set_option maxRecDepth 100000 in
set_option maxHeartbeats 4000000 in
theorem byLetter_x {x : Pc} (h : OkPc x) (hl : x.letter = 120) (w : World) : Calls Tryz.prog 187 #[cvV x (-1), .int .u8 120] w (LetOut w x) := by
  have H := Lib.hid (And.intro h hl)
  clear h hl
  have hLB := let_box w x
  go_enter Tryz.func187, Tryz.ntmps187
  unfold cvV
  go_upto_region 2 with fail
  have hz : ((w.alloc (.cells (cvA x (-1)) 283)).alloc (.cells #[.int .i64 10] 3)).heap.size = w.heap.size + 2 := by simp
  have hsf := store_let ((w.alloc (.cells (cvA x (-1)) 283)).alloc (.cells #[.int .i64 10] 3)) (.func 205) 23
  rw [hz] at hsf
  clear hz
  go_upto_region 3 with fail
  unfold LetV at hLB
  generalize ((w.alloc (.cells (cvA x (-1)) 283)).alloc (.cells #[.int .i64 10] 3)).alloc (.cells #[.func (.func 205) #[] #[]] 23) = U at hLB ⊢
  have HL := Lib.hid hLB
  have cb : U.cell? ⟨w.heap.size + 1, 0, none⟩ = some (.int .i64 10) := h_cell hLB.b 0 rfl
  have zb := h_fz hLB.b 0
  have hlt := h_lt hLB.b
  clear hLB hsf
  go_wp2
  go_ret
  have hb : (U.setCell ⟨w.heap.size + 1, 0, none⟩ (.int .i64 16)).heap[w.heap.size + 1]? = some (.cells #[.int .i64 16] 3) := by
    have := h_set HL.out.b 0 (.int .i64 16)
    simpa using this
  have hT : Turn [w.heap.size + 1] U (U.setCell ⟨w.heap.size + 1, 0, none⟩ (.int .i64 16)) := Turn.set U _ 0 _ (by simp)
  have e : baseL x.letter = 16 := by rw [H.out.2]; rfl
  refine ⟨_, rfl, ⟨_, _, _, rfl⟩, .inr ⟨H.out.1, w.heap.size, by simp, (hT.block _ (h_lt HL.out.c) (by simp)).trans HL.out.c, .inr (.inr ⟨by rw [H.out.2]; decide, w.heap.size + 2, by simp, w.heap.size + 1, by simp, (hT.block _ (h_lt HL.out.t) (by simp)).trans HL.out.t, by rw [e]; exact hb, rfl⟩)⟩, HL.out.below.setCell (p := ⟨w.heap.size + 1, 0, none⟩) (by show w.heap.size ≤ w.heap.size + 1; omega) _, ?_, fun q hq => ?_⟩
  · rw [← HL.out.size]
    exact World.size_setCell _ _ _
  · by_cases e9 : q = w.heap.size + 1
    · subst e9
      exact ⟨_, _, hb, by decide⟩
    · obtain ⟨cs, T, h8, h9⟩ := HL.out.typed q hq
      exact ⟨cs, T, (hT.block q (h_lt h8) (by simpa using e9)).trans h8, h9⟩
set_option maxRecDepth 100000 in
set_option maxHeartbeats 4000000 in
theorem byLetter_o {x : Pc} (h : OkPc x) (hl : x.letter = 111) (w : World) : Calls Tryz.prog 187 #[cvV x (-1), .int .u8 111] w (LetOut w x) := by
  have H := Lib.hid (And.intro h hl)
  clear h hl
  have hLB := let_box w x
  go_enter Tryz.func187, Tryz.ntmps187
  unfold cvV
  go_upto_region 2 with fail
  have hz : ((w.alloc (.cells (cvA x (-1)) 283)).alloc (.cells #[.int .i64 10] 3)).heap.size = w.heap.size + 2 := by simp
  have hsf := store_let ((w.alloc (.cells (cvA x (-1)) 283)).alloc (.cells #[.int .i64 10] 3)) (.func 205) 23
  rw [hz] at hsf
  clear hz
  go_upto_region 3 with fail
  unfold LetV at hLB
  generalize ((w.alloc (.cells (cvA x (-1)) 283)).alloc (.cells #[.int .i64 10] 3)).alloc (.cells #[.func (.func 205) #[] #[]] 23) = U at hLB ⊢
  have HL := Lib.hid hLB
  have cb : U.cell? ⟨w.heap.size + 1, 0, none⟩ = some (.int .i64 10) := h_cell hLB.b 0 rfl
  have zb := h_fz hLB.b 0
  have hlt := h_lt hLB.b
  clear hLB hsf
  go_wp2
  go_ret
  have hb : (U.setCell ⟨w.heap.size + 1, 0, none⟩ (.int .i64 8)).heap[w.heap.size + 1]? = some (.cells #[.int .i64 8] 3) := by
    have := h_set HL.out.b 0 (.int .i64 8)
    simpa using this
  have hT : Turn [w.heap.size + 1] U (U.setCell ⟨w.heap.size + 1, 0, none⟩ (.int .i64 8)) := Turn.set U _ 0 _ (by simp)
  have e : baseL x.letter = 8 := by rw [H.out.2]; rfl
  refine ⟨_, rfl, ⟨_, _, _, rfl⟩, .inr ⟨H.out.1, w.heap.size, by simp, (hT.block _ (h_lt HL.out.c) (by simp)).trans HL.out.c, .inr (.inr ⟨by rw [H.out.2]; decide, w.heap.size + 2, by simp, w.heap.size + 1, by simp, (hT.block _ (h_lt HL.out.t) (by simp)).trans HL.out.t, by rw [e]; exact hb, rfl⟩)⟩, HL.out.below.setCell (p := ⟨w.heap.size + 1, 0, none⟩) (by show w.heap.size ≤ w.heap.size + 1; omega) _, ?_, fun q hq => ?_⟩
  · rw [← HL.out.size]
    exact World.size_setCell _ _ _
  · by_cases e9 : q = w.heap.size + 1
    · subst e9
      exact ⟨_, _, hb, by decide⟩
    · obtain ⟨cs, T, h8, h9⟩ := HL.out.typed q hq
      exact ⟨cs, T, (hT.block q (h_lt h8) (by simpa using e9)).trans h8, h9⟩
theorem byLetter_c {x : Pc} (h : OkPc x) (w : World) : Calls Tryz.prog 187 #[cvV x (-1), .int .u8 (x.letter.toNat : Int)] w (LetOut w x) := by
  rcases h.lets with e | e | e | e | e
  · have h2 := byLetter_s h e w; rw [e]; exact h2
  · have h2 := byLetter_d h e w; rw [e]; exact h2
  · have h2 := byLetter_i h e w; rw [e]; exact h2
  · have h2 := byLetter_x h e w; rw [e]; exact h2
  · have h2 := byLetter_o h e w; rw [e]; exact h2
end Go.Proofs.YteimilnecahifaaGreatDoor.Nm
