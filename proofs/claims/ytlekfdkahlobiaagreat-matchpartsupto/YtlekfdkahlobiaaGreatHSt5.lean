/- The program's classes of bytes, by their names. -/
import Derived.Test.YtlekfdkahlobiaaGreatHKindX
import Derived.Test.YtlekfdkahlobiaaGreatHSt3
import Derived.Test.YtlekfdkahlobiaaGreatHBld8
namespace Go.Proofs.YtlekfdkahlobiaaGreat.Kd
open Go.Proofs.YtlekfdkahlobiaaGreat.Tr
open Go.Proofs.YtlekfdkahlobiaaGreat.Mp
open Go.RowKit

abbrev sb (l : List UInt8) : ByteArray := ⟨l.toArray⟩
def classN : List (List UInt8) := [[97, 108, 112, 104, 97], [100, 105, 103, 105, 116], [97, 108, 110, 117, 109], [117, 112, 112, 101, 114], [108, 111, 119, 101, 114], [98, 108, 97, 110, 107], [115, 112, 97, 99, 101], [99, 110, 116, 114, 108], [112, 114, 105, 110, 116], [103, 114, 97, 112, 104], [112, 117, 110, 99, 116], [120, 100, 105, 103, 105, 116]]
theorem classN_none {l : List UInt8} (h : l ∉ classN) : (classP l).isSome = false := by
  unfold classN at h
  simp only [List.mem_cons, List.not_mem_nil, or_false, not_or] at h
  obtain ⟨h0, h1, h2, h3, h4, h5, h6, h7, h8, h9, h10, h11⟩ := h
  unfold classP
  rw [if_neg h0, if_neg h1, if_neg h2, if_neg h3, if_neg h4, if_neg h5, if_neg h6, if_neg h7, if_neg h8, if_neg h9, if_neg h10, if_neg h11]
  rfl
def cls0 : ByteArray → Option Value := fun _ => none
def cls1 : ByteArray → Option Value := fun d => if d = ⟨#[97, 108, 110, 117, 109]⟩ then some (.func (.func 73) #[] #[]) else cls0 d
def cls2 : ByteArray → Option Value := fun d => if d = ⟨#[97, 108, 112, 104, 97]⟩ then some (.func (.func 79) #[] #[]) else cls1 d
def cls3 : ByteArray → Option Value := fun d => if d = ⟨#[98, 108, 97, 110, 107]⟩ then some (.func (.func 91) #[] #[]) else cls2 d
def cls4 : ByteArray → Option Value := fun d => if d = ⟨#[99, 110, 116, 114, 108]⟩ then some (.func (.func 92) #[] #[]) else cls3 d
def cls5 : ByteArray → Option Value := fun d => if d = ⟨#[100, 105, 103, 105, 116]⟩ then some (.func (.func 78) #[] #[]) else cls4 d
def cls6 : ByteArray → Option Value := fun d => if d = ⟨#[103, 114, 97, 112, 104]⟩ then some (.func (.func 93) #[] #[]) else cls5 d
def cls7 : ByteArray → Option Value := fun d => if d = ⟨#[108, 111, 119, 101, 114]⟩ then some (.func (.func 87) #[] #[]) else cls6 d
def cls8 : ByteArray → Option Value := fun d => if d = ⟨#[112, 114, 105, 110, 116]⟩ then some (.func (.func 94) #[] #[]) else cls7 d
def cls9 : ByteArray → Option Value := fun d => if d = ⟨#[112, 117, 110, 99, 116]⟩ then some (.func (.func 95) #[] #[]) else cls8 d
def cls10 : ByteArray → Option Value := fun d => if d = ⟨#[115, 112, 97, 99, 101]⟩ then some (.func (.func 96) #[] #[]) else cls9 d
def cls11 : ByteArray → Option Value := fun d => if d = ⟨#[117, 112, 112, 101, 114]⟩ then some (.func (.func 86) #[] #[]) else cls10 d
def cls12 : ByteArray → Option Value := fun d => if d = ⟨#[120, 100, 105, 103, 105, 116]⟩ then some (.func (.func 97) #[] #[]) else cls11 d
set_option maxRecDepth 100000 in
set_option maxHeartbeats 4000000 in
theorem classes_p (w : World) : Calls Tryz.prog 89 #[] w fun e w' => e = .returned (.map (some w.heap.size)) ∧ MapS w' w.heap.size 12 cls12 ∧ Below w.heap.size w w' := by
  have hT := Tryz.underlying124
  have hmk : (Instr.makeMap 124 none).run Tryz.prog w = .ok (.map (some w.heap.size)) (w.alloc (.map #[] 0)) := run_makeMap ..
  have hm0 : MapS (w.alloc (.map #[] 0)) w.heap.size 0 cls0 := MapS.made w
  have hB0 : Below w.heap.size w (w.alloc (.map #[] 0)) := (Below.refl _ w).alloc (Nat.le_refl _) _
  obtain ⟨w1, hu1, hm1, hg1⟩ := hm0.put hT (by decide) ⟨#[97, 108, 110, 117, 109]⟩ (by decide) (.func (.func 73) #[] #[])
  have hB1 : Below w.heap.size w w1 := hB0.grown hg1 (by have := hB0.size; omega) (fun j ej => by have e : w.heap.size = j := (by simpa using ej); omega)
  obtain ⟨w2, hu2, hm2, hg2⟩ := hm1.put hT (by decide) ⟨#[97, 108, 112, 104, 97]⟩ (by decide) (.func (.func 79) #[] #[])
  have hB2 : Below w.heap.size w w2 := hB1.grown hg2 (by have := hB1.size; omega) (fun j ej => by have e : w.heap.size = j := (by simpa using ej); omega)
  obtain ⟨w3, hu3, hm3, hg3⟩ := hm2.put hT (by decide) ⟨#[98, 108, 97, 110, 107]⟩ (by decide) (.func (.func 91) #[] #[])
  have hB3 : Below w.heap.size w w3 := hB2.grown hg3 (by have := hB2.size; omega) (fun j ej => by have e : w.heap.size = j := (by simpa using ej); omega)
  obtain ⟨w4, hu4, hm4, hg4⟩ := hm3.put hT (by decide) ⟨#[99, 110, 116, 114, 108]⟩ (by decide) (.func (.func 92) #[] #[])
  have hB4 : Below w.heap.size w w4 := hB3.grown hg4 (by have := hB3.size; omega) (fun j ej => by have e : w.heap.size = j := (by simpa using ej); omega)
  obtain ⟨w5, hu5, hm5, hg5⟩ := hm4.put hT (by decide) ⟨#[100, 105, 103, 105, 116]⟩ (by decide) (.func (.func 78) #[] #[])
  have hB5 : Below w.heap.size w w5 := hB4.grown hg5 (by have := hB4.size; omega) (fun j ej => by have e : w.heap.size = j := (by simpa using ej); omega)
  obtain ⟨w6, hu6, hm6, hg6⟩ := hm5.put hT (by decide) ⟨#[103, 114, 97, 112, 104]⟩ (by decide) (.func (.func 93) #[] #[])
  have hB6 : Below w.heap.size w w6 := hB5.grown hg6 (by have := hB5.size; omega) (fun j ej => by have e : w.heap.size = j := (by simpa using ej); omega)
  obtain ⟨w7, hu7, hm7, hg7⟩ := hm6.put hT (by decide) ⟨#[108, 111, 119, 101, 114]⟩ (by decide) (.func (.func 87) #[] #[])
  have hB7 : Below w.heap.size w w7 := hB6.grown hg7 (by have := hB6.size; omega) (fun j ej => by have e : w.heap.size = j := (by simpa using ej); omega)
  obtain ⟨w8, hu8, hm8, hg8⟩ := hm7.put hT (by decide) ⟨#[112, 114, 105, 110, 116]⟩ (by decide) (.func (.func 94) #[] #[])
  have hB8 : Below w.heap.size w w8 := hB7.grown hg8 (by have := hB7.size; omega) (fun j ej => by have e : w.heap.size = j := (by simpa using ej); omega)
  obtain ⟨w9, hu9, hm9, hg9⟩ := hm8.put hT (by decide) ⟨#[112, 117, 110, 99, 116]⟩ (by decide) (.func (.func 95) #[] #[])
  have hB9 : Below w.heap.size w w9 := hB8.grown hg9 (by have := hB8.size; omega) (fun j ej => by have e : w.heap.size = j := (by simpa using ej); omega)
  obtain ⟨w10, hu10, hm10, hg10⟩ := hm9.put hT (by decide) ⟨#[115, 112, 97, 99, 101]⟩ (by decide) (.func (.func 96) #[] #[])
  have hB10 : Below w.heap.size w w10 := hB9.grown hg10 (by have := hB9.size; omega) (fun j ej => by have e : w.heap.size = j := (by simpa using ej); omega)
  obtain ⟨w11, hu11, hm11, hg11⟩ := hm10.put hT (by decide) ⟨#[117, 112, 112, 101, 114]⟩ (by decide) (.func (.func 86) #[] #[])
  have hB11 : Below w.heap.size w w11 := hB10.grown hg11 (by have := hB10.size; omega) (fun j ej => by have e : w.heap.size = j := (by simpa using ej); omega)
  obtain ⟨w12, hu12, hm12, hg12⟩ := hm11.put hT (by decide) ⟨#[120, 100, 105, 103, 105, 116]⟩ (by decide) (.func (.func 97) #[] #[])
  have hB12 : Below w.heap.size w w12 := hB11.grown hg12 (by have := hB11.size; omega) (fun j ej => by have e : w.heap.size = j := (by simpa using ej); omega)
  have HX := Lib.hid (And.intro hm12 hB12)
  clear hm0 hB0 hm1 hB1 hm2 hB2 hm3 hB3 hm4 hB4 hm5 hB5 hm6 hB6 hm7 hB7 hm8 hB8 hm9 hB9 hm10 hB10 hm11 hB11 hm12 hB12 hg1 hg2 hg3 hg4 hg5 hg6 hg7 hg8 hg9 hg10 hg11 hg12
  go_enter Tryz.func89, Tryz.ntmps89
  go_wp2
  go_ret
  exact ⟨rfl, HX.out.1, HX.out.2⟩
/-- What the table says of a name. -/
def ClsOk (name : List UInt8) : Prop := (cls12 (sb name) = none ∧ classP name = none) ∨ ∃ f p, cls12 (sb name) = some (.func (.func f) #[] #[]) ∧ classP name = some p ∧ (∀ W, Kind f #[] p W) ∧ (∀ (z : Array Value) (u : World), (callFunc f z).run Tryz.prog u = .ok (.enter f z) u) ∧ bytesOf p 256 ≠ []
theorem sb_ne {a b : List UInt8} (h : a ≠ b) : ¬ sb a = sb b := fun e => h (by have := congrArg (fun s : ByteArray => s.data.toList) e; simpa using this)
set_option maxRecDepth 100000 in
set_option maxHeartbeats 4000000 in
theorem cls_ok (name : List UInt8) : ClsOk name := by
  by_cases h0 : name = [97, 108, 110, 117, 109]
  · subst h0
    exact .inr ⟨73, (fun c => upperB c || lowerB c || digitB c), rfl, rfl, fun W => isAlnum_c W, fun _ _ => by kernel_rfl, by decide +kernel⟩
  by_cases h1 : name = [97, 108, 112, 104, 97]
  · subst h1
    exact .inr ⟨79, (fun c => upperB c || lowerB c), rfl, rfl, fun W => isAlpha_c W, fun _ _ => by kernel_rfl, by decide +kernel⟩
  by_cases h2 : name = [98, 108, 97, 110, 107]
  · subst h2
    exact .inr ⟨91, (fun c => c == 9 || c == 32), rfl, rfl, fun W => blank_c W, fun _ _ => by kernel_rfl, by decide +kernel⟩
  by_cases h3 : name = [99, 110, 116, 114, 108]
  · subst h3
    exact .inr ⟨92, (fun c => decide (c < 32) || c == 127), rfl, rfl, fun W => cntrl_c W, fun _ _ => by kernel_rfl, by decide +kernel⟩
  by_cases h4 : name = [100, 105, 103, 105, 116]
  · subst h4
    exact .inr ⟨78, (digitB), rfl, rfl, fun W => isDigit_c W, fun _ _ => by kernel_rfl, by decide +kernel⟩
  by_cases h5 : name = [103, 114, 97, 112, 104]
  · subst h5
    exact .inr ⟨93, (fun c => within 33 126 c), rfl, rfl, fun W => isGraph_c W, fun _ _ => by kernel_rfl, by decide +kernel⟩
  by_cases h6 : name = [108, 111, 119, 101, 114]
  · subst h6
    exact .inr ⟨87, (lowerB), rfl, rfl, fun W => isLower_c W, fun _ _ => by kernel_rfl, by decide +kernel⟩
  by_cases h7 : name = [112, 114, 105, 110, 116]
  · subst h7
    exact .inr ⟨94, (fun c => within 32 126 c), rfl, rfl, fun W => print_c W, fun _ _ => by kernel_rfl, by decide +kernel⟩
  by_cases h8 : name = [112, 117, 110, 99, 116]
  · subst h8
    exact .inr ⟨95, (fun c => within 33 126 c && !upperB c && !lowerB c && !digitB c), rfl, rfl, fun W => punct_c W, fun _ _ => by kernel_rfl, by decide +kernel⟩
  by_cases h9 : name = [115, 112, 97, 99, 101]
  · subst h9
    exact .inr ⟨96, (fun c => within 9 13 c || c == 32), rfl, rfl, fun W => space_c W, fun _ _ => by kernel_rfl, by decide +kernel⟩
  by_cases h10 : name = [117, 112, 112, 101, 114]
  · subst h10
    exact .inr ⟨86, (upperB), rfl, rfl, fun W => isUpper_c W, fun _ _ => by kernel_rfl, by decide +kernel⟩
  by_cases h11 : name = [120, 100, 105, 103, 105, 116]
  · subst h11
    exact .inr ⟨97, (fun c => digitB c || within 65 70 c || within 97 102 c), rfl, rfl, fun W => xdigit_c W, fun _ _ => by kernel_rfl, by decide +kernel⟩
  have hn : name ∉ classN := by simp [classN, h0, h1, h2, h3, h4, h5, h6, h7, h8, h9, h10, h11]
  refine .inl ⟨?_, ?_⟩
  · simp only [cls12, cls11, cls10, cls9, cls8, cls7, cls6, cls5, cls4, cls3, cls2, cls1, cls0, if_neg (sb_ne h0), if_neg (sb_ne h1), if_neg (sb_ne h2), if_neg (sb_ne h3), if_neg (sb_ne h4), if_neg (sb_ne h5), if_neg (sb_ne h6), if_neg (sb_ne h7), if_neg (sb_ne h8), if_neg (sb_ne h9), if_neg (sb_ne h10), if_neg (sb_ne h11)]
  · have := classN_none hn
    simpa using this
end Go.Proofs.YtlekfdkahlobiaaGreat.Kd

namespace Go.Proofs.YtlekfdkahlobiaaGreat.Re
open Go.Proofs.YtlekfdkahlobiaaGreat.Tr
open Go.RowKit

section
variable {w : World} {rb : Nat} {l : List UInt8} {ext fold cl : Bool} {pv ov : Value}
theorem RS.keep {w' : World} {last : Nat} {fs : List Fr} (h : RS rb ext fold w l last fs) (hB : Below w.heap.size w w') : RS rb ext fold w' l last fs := by
  obtain ⟨cl, pv, ov, made, hR, hb, r⟩ := h
  exact ⟨cl, pv, ov, made, hR.keep hB, hb.keep (AKeep.of hB), r⟩
theorem RS.lt {last : Nat} {fs : List Fr} (h : RS rb ext fold w l last fs) : rb < w.heap.size := by
  obtain ⟨cl, pv, ov, made, hR, _⟩ := h
  exact h_lt hR
theorem RO.from {w0 w : World} {o : Ms} {e : Ending} {w' : World} (h : RO rb ext fold w o e w') (hB : Below rb w0 w) : RO rb ext fold w0 o e w' := ⟨hB.trans h.1, h.2⟩
set_option maxHeartbeats 1000000 in
theorem byteAlone_c {f : Fr} {fs : List Fr} {last : Nat} (c : UInt8) (h : RS rb ext fold w l last (f :: fs)) : Calls Tryz.prog 68 #[ptr rb, .int .u8 (c.toNat : Int)] w (RO rb ext fold w (some (l, 4, pieceF (oneN fold c) (f :: fs)))) := by
  have hrb := h.lt
  have HA : Hid (∀ u, Below w.heap.size w u → Calls Tryz.prog 65 #[ptr rb, bl (foldP fold fun d => d == c)] u (RO rb ext fold w (some (l, 4, pieceF (oneN fold c) (f :: fs))))) := fun u hu => (atom_c _ (h.keep hu)).mono fun e w' hq => hq.from (hu.mono (Nat.le_of_lt hrb))
  have ho := only_c c fold w
  obtain ⟨cl, pv, ov, made, hR, _⟩ := h
  have c2 := h_cell hR 2 rfl
  clear hR
  unfold bl at HA ho
  generalize (boolsL (foldP fold fun d => d == c)).toArray = cs at HA ho
  go_enter Tryz.func68, Tryz.ntmps68
  go_wp2_with (first
    | (go_at_call 13; refine ho.mono ?_; rintro e w1 ⟨rfl, hB1⟩; have ha := HA.out w1 hB1; clear hB1)
    | (go_at_call 65; refine ha.mono ?_; rintro e w2 ⟨hB2, rfl, hS2⟩))
  go_end0
  exact ⟨hB2, rfl, hS2⟩
theorem alnum_eq (c : UInt8) : (upperB c.toNat || lowerB c.toNat || digitB c.toNat) = alnumB c := by
  unfold alnumB letterB
  have : digitB c.toNat = isDec c := rfl
  rw [this, Bool.or_comm (upperB c.toNat)]
theorem isAlnumR_c (c : UInt8) (w : World) : Calls Tryz.prog 73 #[.int .u8 (c.toNat : Int)] w fun e w' => e = .returned (.bool (alnumB c)) ∧ w' = w := by
  have := Kd.kind_at (Kd.isAlnum_c w) c.toNat c.toNat_lt
  rw [alnum_eq] at this
  exact this
set_option maxHeartbeats 1000000 in
theorem escaped_c {f : Fr} {fs : List Fr} {last : Nat} (c : UInt8) (h : RS rb ext fold w l last (f :: fs)) : Calls Tryz.prog 57 #[ptr rb, .int .u8 (c.toNat : Int)] w (RO rb ext fold w (atomM (f :: fs) (quoteE fold (c :: l)))) := by
  have ha := isAlnumR_c c w
  have hb := byteAlone_c c h
  have hg := giveUp_c w
  cases hc : alnumB c with
  | true =>
    rw [hc] at ha
    have HQ : Hid (atomM (f :: fs) (quoteE fold (c :: l)) = none) := by show _ = _; rw [quoteE, if_pos hc]; rfl
    clear h hb hc
    rw [HQ.out]
    go_enter Tryz.func57, Tryz.ntmps57
    go_wp2_with (first
      | (go_at_call 73; refine ha.mono ?_; rintro e w1 ⟨rfl, hw⟩; rw [hw]; clear hw w1)
      | (go_at_call 38; refine hg.mono ?_; rintro e w1 ⟨rfl, hw⟩; rw [hw]; clear hw w1))
    exact ⟨rfl, Below.refl _ _, rfl⟩
  | false =>
    rw [hc] at ha
    have HQ : Hid (atomM (f :: fs) (quoteE fold (c :: l)) = some (l, 4, pieceF (oneN fold c) (f :: fs))) := by show _ = _; rw [quoteE, if_neg (by rw [hc]; simp)]; rfl
    clear h hc hg
    rw [HQ.out]
    go_enter Tryz.func57, Tryz.ntmps57
    go_wp2_with (first
      | (go_at_call 73; refine ha.mono ?_; rintro e w1 ⟨rfl, hw⟩; rw [hw]; clear hw w1)
      | (go_at_call 68; refine hb.mono ?_; rintro e w2 ⟨hB2, rfl, hS2⟩))
    go_end0
    exact ⟨hB2, rfl, hS2⟩
set_option maxHeartbeats 1000000 in
theorem rrep_c {f : Fr} {fs : List Fr} {last : Nat} (m n : Int) (hmm : 0 ≤ m ∧ m ≤ 255) (hnn : (n = -1 ∨ m ≤ n) ∧ n ≤ 255) (h : RS rb ext fold w l last (f :: fs)) : Calls Tryz.prog 52 #[ptr rb, .int .i64 m, .int .i64 n] w (RO rb ext fold w (repM last (f :: fs) m n l)) := by
  obtain ⟨cl, pv, ov, made, hR, hB, hcl, hlen, htop⟩ := h
  have c3 := h_cell hR 3 rfl
  by_cases h4 : last = 4
  · subst h4
    obtain ⟨pc, x, hpx⟩ := htop rfl
    obtain ⟨br, f2⟩ := f
    simp only at hpx
    subst hpx
    have hr := brep_a hmm hnn hR hB
    have HM : Hid (repM 4 ((br, pc ++ [x]) :: fs) m n l = some (l, 5, repF m n ((br, pc ++ [x]) :: fs))) := if_pos rfl
    rw [HM.out]
    have HF : Hid (∀ u pv' ov' md', Below rb w u → Rd u rb l ext fold ((4 : Nat) : Int) (((br, pc ++ [x]) :: fs).length : Int) cl pv' ov' md' → Bd u rb pv' ov' md' (repF m n ((br, pc ++ [x]) :: fs)) → RO rb ext fold w (some (l, 5, repF m n ((br, pc ++ [x]) :: fs))) (.returned (.tuple #[])) (u.setCell ⟨rb, 3, none⟩ (.int .i64 5))) := fun u pv' ov' md' hb h1 h2 => ⟨hb.setCell (p := ⟨rb, 3, none⟩) (Nat.le_refl _) _, rfl, cl, pv', ov', md', by rw [repF_len]; exact h1.setLast 5, h2.keep (AKeep.bar (Bar.set _ _ _ _) h1), hcl, by rw [repF_len]; exact hlen, fun e => absurd e (by simp only; omega)⟩
    clear hR hB hcl hlen htop
    go_enter Tryz.func52, Tryz.ntmps52
    go_wp2_with (go_at_call 64; refine hr.mono ?_; rintro e wp ⟨rfl, pvp, ovp, mdp, hRp, hbp, hNp, hBp⟩; have k3 := h_cell hRp 3 rfl; have z3 := h_fz hRp 3; have HZ := Lib.hid (HF.out wp pvp ovp mdp hBp hRp hbp); clear hRp hbp hNp hBp)
    go_end0
    exact HZ.out
  · have HM : Hid (repM last (f :: fs) m n l = none) := if_neg h4
    rw [HM.out]
    have hg := giveUp_c w
    have q : ((last : Int) == 4) = false := by rw [beq_eq_false_iff_ne]; omega
    clear hR hB
    go_enter Tryz.func52, Tryz.ntmps52
    go_wp2_with (go_at_call 38; refine hg.mono ?_; rintro e w1 ⟨rfl, hw⟩; rw [hw]; clear hw w1)
    exact ⟨rfl, Below.refl _ _, rfl⟩
end
end Go.Proofs.YtlekfdkahlobiaaGreat.Re

namespace Go.Proofs.YtlekfdkahlobiaaGreat.Re
open Go.Proofs.YtlekfdkahlobiaaGreat.Tr
open Go.RowKit

section
variable {w : World} {rb : Nat} {l : List UInt8} {ext fold cl : Bool} {pv ov : Value} {last depth made : Int}
theorem ebr_a {f : Fr} {fs : List Fr} (h : Rd w rb l ext fold last depth cl pv ov made) (hb : Bd w rb pv ov made (f :: fs)) (hfs : fs.length ≤ 2097152) : Calls Tryz.prog 69 #[bldP rb] w (BlB rb l ext fold last depth cl w (branchF (f :: fs))) := by
  by_cases hm : made ≤ 10000
  · obtain ⟨br, pc⟩ := f
    by_cases hp : pc = []
    · subst hp
      exact (ebr_e h (hb.row hm) hm hfs).mono fun e w' hq => BlB.of hq fun _ _ _ _ hP => hP.1.bd
    · exact (ebr_b hp h (hb.row hm) hm hfs).mono fun e w' hq => BlB.of hq fun _ _ _ _ hP => hP.1.bd
  · exact (ebr_full h (by omega)).mono fun e w' hq => BlB.same h hb (by omega) (sz_branch f fs) hq.1 (by rw [hq.2]; exact Below.refl _ _)
/-- The builder behind the end of an expression. -/
structure BdX (w : World) (rb : Nat) (pv ov : Value) (made : Int) (fl : List Nd) (sp : List (Nat × Nat)) : Prop where
  m0 : 0 ≤ made
  m1 : made ≤ 10001
  wt : made ≤ (Nd.size.sizes fl : Int)
  row : made ≤ 10000 → BdL w rb pv ov made fl sp
theorem BdX.keep {w' : World} {fl : List Nd} {sp : List (Nat × Nat)} (h : BdX w rb pv ov made fl sp) (hk : AKeep w w') : BdX w' rb pv ov made fl sp := ⟨h.m0, h.m1, h.wt, fun hm => (h.row hm).keep hk⟩
theorem BdX.bd {x : Nd} {g : Fr} {fs : List Fr} (h : BdX w rb pv ov made (flat (g :: fs) ++ [x]) (spansF (g :: fs))) : Bd w rb pv ov made (pieceF x (g :: fs)) := by
  refine ⟨h.m0, h.m1, by rw [flat_piece]; exact h.wt, fun hm => ?_⟩
  have := h.row hm
  rw [← flat_piece, ← spans_piece x] at this
  exact this.toR
theorem end_a {br : List Nd} {fs : List Fr} (h : Rd w rb l ext fold last depth cl pv ov made) (hb : Bd w rb pv ov made ((br, []) :: fs)) (hfs : fs.length ≤ 2097152) (hbr : br ≠ []) : Calls Tryz.prog 59 #[bldP rb] w (BlO rb l ext fold last depth cl w fun w' pv' ov' made' => BdX w' rb pv' ov' made' (flat fs ++ [joinN 5 br]) (spansF fs)) := by
  by_cases hm : made ≤ 10000
  · refine (end_b h (hb.row hm) hm hfs hbr).mono fun e w' hq => ?_
    obtain ⟨h1, pv, ov, md, h2, ⟨h3, _⟩, h4⟩ := hq
    exact ⟨h1, pv, ov, md, h2, ⟨h3.m0, h3.m1, h3.wt, fun _ => h3⟩, h4⟩
  · refine (end_full h (by omega)).mono fun e w' hq => ?_
    rw [hq.2]
    exact ⟨hq.1, pv, ov, made, h, ⟨hb.m0, hb.m1, by have := hb.wt; have := sz_end br fs; omega, fun h => by omega⟩, NKeep.refl _, Below.refl _ _⟩
set_option maxHeartbeats 1000000 in
theorem rbegin_c {fs : List Fr} {last : Nat} (h : RS rb ext fold w l last fs) (hl : fs.length + 1 + l.length ≤ 2097152) : Calls Tryz.prog 36 #[ptr rb] w (RO rb ext fold w (some (l, 0, ([], []) :: fs))) := by
  obtain ⟨cl, pv, ov, made, hR, hB, hcl, hlen, htop⟩ := h
  have hr := begin_a hR hB (by omega)
  have w1 : IntKind.i64.wrap ((fs.length : Int) + 1) = (fs.length : Int) + 1 := IntWalk.i64_in _ (by omega)
  have HF : Hid (∀ u pv' ov' md', Below rb w u → Rd u rb l ext fold (last : Int) (fs.length : Int) cl pv' ov' md' → Bd u rb pv' ov' md' (([], []) :: fs) → RO rb ext fold w (some (l, 0, ([], []) :: fs)) (.returned (.tuple #[])) ((u.setCell ⟨rb, 4, none⟩ (.int .i64 ((fs.length : Int) + 1))).setCell ⟨rb, 3, none⟩ (.int .i64 0))) := fun u pv' ov' md' hb h1 h2 => ⟨(hb.setCell (p := ⟨rb, 4, none⟩) (Nat.le_refl _) _).setCell (p := ⟨rb, 3, none⟩) (Nat.le_refl _) _, rfl, cl, pv', ov', md', by have h5 := (h1.setDepth ((fs.length : Int) + 1)).setLast 0; rw [show (((([], []) :: fs : List Fr).length : Nat) : Int) = (fs.length : Int) + 1 by simp]; exact h5, h2.keep (AKeep.bar ((Bar.set _ _ _ _).trans (Bar.set _ _ _ _)) h1), hcl, by simp only [List.length_cons]; omega, fun e => absurd e (by simp only; omega)⟩
  clear hR hB hcl hlen htop
  go_enter Tryz.func36, Tryz.ntmps36
  go_wp2_with (go_at_call 58; refine hr.mono ?_; rintro e wp ⟨rfl, pvp, ovp, mdp, hRp, hbp, hNp, hBp⟩; have k4 := h_cell hRp 4 rfl; have z4 := h_fz hRp 4; have k3 := h_cell (hRp.setDepth ((fs.length : Int) + 1)) 3 rfl; have z3 := h_fz (hRp.setDepth ((fs.length : Int) + 1)) 3; have HZ := Lib.hid (HF.out wp pvp ovp mdp hBp hRp hbp); clear hRp hbp hNp hBp)
  go_end0
  exact HZ.out
/-- What the end of a branch, or of an expression, leaves of the reader. -/
def RX (rb : Nat) (l : List UInt8) (ext fold : Bool) (last depth : Int) (cl : Bool) (w : World) (P : World → Value → Value → Int → Prop) (no : Bool) (e : Ending) (w' : World) : Prop :=
  Below rb w w' ∧ if no = true then e = .panicked gaveUp else e = .returned (.tuple #[]) ∧ ∃ pv ov made, Rd w' rb l ext fold last depth cl pv ov made ∧ P w' pv ov made
set_option maxHeartbeats 1000000 in
set_option maxRecDepth 100000 in
theorem rbranch_c {f : Fr} {fs : List Fr} {last : Nat} (h : Rd w rb l ext fold (last : Int) depth cl pv ov made) (hb : Bd w rb pv ov made (f :: fs)) (hfs : fs.length ≤ 2097152) : Calls Tryz.prog 55 #[ptr rb] w (RX rb l ext fold (last : Int) depth cl w (fun w' pv' ov' made' => Bd w' rb pv' ov' made' (branchF (f :: fs))) (decide (ext = true ∧ last ≤ 1))) := by
  have c1 := h_cell h 1 rfl
  have c3 := h_cell h 3 rfl
  have hr := ebr_a h hb hfs
  have hg := giveUp_c w
  have HF : Hid (∀ e w', BlB rb l ext fold (last : Int) depth cl w (branchF (f :: fs)) e w' → RX rb l ext fold (last : Int) depth cl w (fun w' pv' ov' made' => Bd w' rb pv' ov' made' (branchF (f :: fs))) false e w') := fun e w' hq => by
    obtain ⟨h1, pv, ov, md, h2, h3, h4, h5⟩ := hq
    exact ⟨h5, by rw [if_neg (by simp)]; exact ⟨h1, pv, ov, md, h2, h3⟩⟩
  clear h hb
  cases ext with
  | false =>
    rw [decide_eq_false (by simp)]
    go_enter Tryz.func55, Tryz.ntmps55
    go_wp2_with (go_at_call 69; refine hr.mono ?_; rintro e wp hq; have HZ := Lib.hid (HF.out e wp hq); obtain ⟨rfl, _⟩ := hq)
    go_end0
    exact HZ.out
  | true =>
    by_cases h1 : last ≤ 1
    · rw [decide_eq_true ⟨rfl, h1⟩]
      rcases (by omega : last = 0 ∨ last = 1) with rfl | rfl
      · go_enter Tryz.func55, Tryz.ntmps55
        go_wp2_with (go_at_call 38; refine hg.mono ?_; rintro e w1 ⟨rfl, hw⟩; rw [hw]; clear hw w1)
        exact ⟨rfl, Below.refl _ _, by rw [if_pos rfl]⟩
      · go_enter Tryz.func55, Tryz.ntmps55
        go_wp2_with (go_at_call 38; refine hg.mono ?_; rintro e w1 ⟨rfl, hw⟩; rw [hw]; clear hw w1)
        exact ⟨rfl, Below.refl _ _, by rw [if_pos rfl]⟩
    · rw [decide_eq_false (fun e => h1 e.2)]
      have q0 : ((last : Int) == 0) = false := by rw [beq_eq_false_iff_ne]; omega
      have q1 : ((last : Int) == 1) = false := by rw [beq_eq_false_iff_ne]; omega
      go_enter Tryz.func55, Tryz.ntmps55
      go_wp2_with (go_at_call 69; refine hr.mono ?_; rintro e wp hq; have HZ := Lib.hid (HF.out e wp hq); obtain ⟨rfl, _⟩ := hq)
      go_end0
      exact HZ.out
set_option maxHeartbeats 1000000 in
set_option maxRecDepth 100000 in
theorem rend_c {f : Fr} {fs : List Fr} {last : Nat} (h : Rd w rb l ext fold (last : Int) ((fs.length : Int) + 1) cl pv ov made) (hb : Bd w rb pv ov made (f :: fs)) (hfs : fs.length ≤ 2097152) : Calls Tryz.prog 37 #[ptr rb] w (RX rb l ext fold (last : Int) (fs.length : Int) cl w (fun w' pv' ov' made' => BdX w' rb pv' ov' made' (flat fs ++ [joinN 5 (f.1 ++ [joinN 4 f.2])]) (spansF fs)) (decide (ext = true ∧ last ≤ 1))) := by
  have hr := rbranch_c h hb hfs
  have w1 : IntKind.i64.wrap ((fs.length : Int) + 1 - 1) = (fs.length : Int) := by rw [show (fs.length : Int) + 1 - 1 = (fs.length : Int) by omega]; exact IntWalk.i64_in _ (by omega)
  have HE : Hid (∀ u pv' ov' md', Rd u rb l ext fold (last : Int) ((fs.length : Int) + 1) cl pv' ov' md' → Bd u rb pv' ov' md' (branchF (f :: fs)) → Calls Tryz.prog 59 #[bldP rb] u (BlO rb l ext fold (last : Int) ((fs.length : Int) + 1) cl u fun w' pv' ov' made' => BdX w' rb pv' ov' made' (flat fs ++ [joinN 5 (f.1 ++ [joinN 4 f.2])]) (spansF fs))) := fun u pv' ov' md' h1 h2 => end_a h1 h2 hfs (by simp)
  clear h hb
  cases hx : decide (ext = true ∧ last ≤ 1) with
  | true =>
    rw [hx] at hr
    clear hx
    go_enter Tryz.func37, Tryz.ntmps37
    go_wp2_with (go_at_call 55; refine hr.mono ?_; rintro e wp ⟨hBp, he⟩; rw [if_pos rfl] at he; subst he)
    exact ⟨rfl, hBp, by rw [if_pos rfl]⟩
  | false =>
    rw [hx] at hr
    clear hx
    go_enter Tryz.func37, Tryz.ntmps37
    go_wp2_with (first
      | (go_at_call 55; refine hr.mono ?_; rintro e wp ⟨hBp, he⟩; rw [if_neg (by simp)] at he; obtain ⟨rfl, pvp, ovp, mdp, hRp, hbp⟩ := he; have hen := HE.out wp pvp ovp mdp hRp hbp; have HBp := Lib.hid hBp; clear hRp hbp hBp)
      | (go_at_call 59; refine hen.mono ?_; rintro e wq ⟨rfl, pvq, ovq, mdq, hRq, hbq, hNq, hBq⟩; have k4 := h_cell hRq 4 rfl; have z4 := h_fz hRq 4; have HZ := Lib.hid (And.intro hRq (And.intro hbq hBq)); clear hRq hbq hNq hBq hen))
    go_end0
    refine ⟨(HBp.out.trans HZ.out.2.2).setCell (p := ⟨rb, 4, none⟩) (Nat.le_refl _) _, ?_⟩
    rw [if_neg (by simp)]
    exact ⟨rfl, pvq, ovq, mdq, HZ.out.1.setDepth _, HZ.out.2.1.keep (AKeep.bar (Bar.set _ _ _ _) HZ.out.1)⟩
set_option maxHeartbeats 1000000 in
set_option maxRecDepth 100000 in
theorem endInner_c {f : Fr} {fs : List Fr} {last : Nat} (h : RS rb ext fold w l last (f :: fs)) : Calls Tryz.prog 54 #[ptr rb] w (RO rb ext fold w (shutM ext last (f :: fs) l)) := by
  obtain ⟨cl, pv, ov, made, hR, hB, hcl, hlen, htop⟩ := h
  have c4 := h_cell hR 4 rfl
  have hg := giveUp_c w
  cases fs with
  | nil =>
    have HM : Hid (shutM ext last [f] l = none) := if_pos rfl
    rw [HM.out]
    clear hR hB
    go_enter Tryz.func54, Tryz.ntmps54
    go_wp2_with (go_at_call 38; refine hg.mono ?_; rintro e w1 ⟨rfl, hw⟩; rw [hw]; clear hw w1)
    exact ⟨rfl, Below.refl _ _, rfl⟩
  | cons g fs =>
    simp only [List.length_cons] at hlen
    have hdep : (((f :: g :: fs).length : Nat) : Int) = (((g :: fs).length : Nat) : Int) + 1 := by simp
    rw [hdep] at hR c4
    have hr := rend_c hR hB (by simp only [List.length_cons]; omega)
    have q4 : ((((g :: fs).length : Nat) : Int) + 1 == 1) = false := by rw [beq_eq_false_iff_ne]; simp only [List.length_cons]; omega
    have HM : Hid (shutM ext last (f :: g :: fs) l = if ext = true ∧ last ≤ 1 then none else some (l, 4, pieceF (joinN 5 (f.1 ++ [joinN 4 f.2])) (g :: fs))) := by
      show _ = _
      unfold shutM
      rw [if_neg (by simp)]
      rfl
    rw [HM.out]
    have HF : Hid (∀ u pv' ov' md', Below rb w u → Rd u rb l ext fold (last : Int) (((g :: fs).length : Nat) : Int) cl pv' ov' md' → BdX u rb pv' ov' md' (flat (g :: fs) ++ [joinN 5 (f.1 ++ [joinN 4 f.2])]) (spansF (g :: fs)) → RO rb ext fold w (some (l, 4, pieceF (joinN 5 (f.1 ++ [joinN 4 f.2])) (g :: fs))) (.returned (.tuple #[])) (u.setCell ⟨rb, 3, none⟩ (.int .i64 4))) := fun u pv' ov' md' hb h1 h2 => ⟨hb.setCell (p := ⟨rb, 3, none⟩) (Nat.le_refl _) _, rfl, cl, pv', ov', md', by rw [pieceF_len]; exact h1.setLast 4, h2.bd.keep (AKeep.bar (Bar.set _ _ _ _) h1), hcl, by rw [pieceF_len]; simp only [List.length_cons]; omega, fun _ => top_piece _ _ _⟩
    clear hR hB hcl hlen htop hdep
    generalize (((g :: fs).length : Nat) : Int) = dp at *
    by_cases hx : ext = true ∧ last ≤ 1
    · rw [if_pos hx]
      rw [decide_eq_true hx] at hr
      clear hx
      go_enter Tryz.func54, Tryz.ntmps54
      go_wp2_with (go_at_call 37; refine hr.mono ?_; rintro e wp ⟨hBp, he⟩; rw [if_pos rfl] at he; subst he)
      exact ⟨rfl, hBp, rfl⟩
    · rw [if_neg hx]
      rw [decide_eq_false hx] at hr
      clear hx
      go_enter Tryz.func54, Tryz.ntmps54
      go_wp2_with (go_at_call 37; refine hr.mono ?_; rintro e wp ⟨hBp, he⟩; rw [if_neg (by simp)] at he; obtain ⟨rfl, pvp, ovp, mdp, hRp, hbp⟩ := he; have k3 := h_cell hRp 3 rfl; have z3 := h_fz hRp 3; have HZ := Lib.hid (HF.out wp pvp ovp mdp hBp hRp hbp); clear hRp hbp hBp)
      go_end0
      exact HZ.out
end
end Go.Proofs.YtlekfdkahlobiaaGreat.Re
