/- printf: what the laws ask is within what was walked. -/
import Derived.Test.YteimilnecahifaaGreatDoorFOnce
import Derived.Test.YteimilnecahifaaGreatDoorFEscN
namespace Go.Proofs.YteimilnecahifaaGreatDoor.Nm
open Go.Proofs.YteimilnecahifaaGreatDoor Go.Proofs.YteimilnecahifaaGreatDoor.Op

/-- A FORMAT and arguments that were walked: what is told, which arguments are no numbers. -/
structure PrfP (f : ByteArray) (args : List ByteArray) (l0 : List Pc) (TO : List UInt8) (Bd : List ByteArray) : Prop where
  rd : piecesS f.data.toList = some l0
  okf : okF f.data.toList = true
  cv : ∀ x ∈ l0, x.letter = 0 ∨ OkPc x
  fz : f.size ≤ 4096
  ok : OkAll (mergeP [] l0) (args.length + 1) args
  all : allS (mergeP [] l0) (args.length + 1) args = (TO, Bd)
  bd : Bd = [] ∨ Bd = [bz [120]]
theorem bad_nil {l : List ByteArray} (h : (l.map badLine).flatten = []) : l = [] := by
  cases l with
  | nil => rfl
  | cons a l =>
    rw [List.map_cons, List.flatten_cons, List.append_eq_nil_iff] at h
    have := congrArg List.length h.1
    simp [badLine] at this
/-- What a run without such an argument comes to. -/
theorem all_of {f : ByteArray} {args : List ByteArray} {l0 : List Pc} {TO : List UInt8} (h : piecesS f.data.toList = some l0) (hp : printfS f args = some ⟨TO, [], 0⟩) : allS (mergeP [] l0) (args.length + 1) args = (TO, []) := by
  rw [printfS, h] at hp
  simp only [Option.map_some, Option.some.injEq, Res.mk.injEq] at hp
  rw [all_merge]
  exact Prod.ext hp.1 (bad_nil hp.2.1)
theorem okpc_of {x : Pc} (h1 : x.prec = none) (h2 : x.plus = false) (h3 : x.blank = false) (h4 : x.width ≤ 1000) (h5 : x.letter = 115 ∨ x.letter = 100 ∨ x.letter = 105 ∨ x.letter = 120 ∨ x.letter = 111) (h6 : x.sharp = true → x.letter = 111 ∧ x.zero = false) : OkPc x := ⟨h1, h2, h3, h4, h5, h6⟩
theorem one_num {x : Pc} (h : OkPc x) {a : ByteArray} {n : Nat} (hn : n ≤ 9223372036854775807) (ha : NumArg a.data.toList n) : OkOne x a := ⟨h, fun _ => .inl ⟨n, hn, ha⟩⟩
theorem one_text {x : Pc} (h : OkPc x) (hl : x.letter = 115) (a : ByteArray) : OkOne x a := ⟨h, fun e => absurd hl e⟩
theorem pass_byte {p : List UInt8} {l : List Pc} {args : List ByteArray} (h : OkPass l args) : OkPass ({ b := p } :: l) args := by
  rw [OkPass, if_pos rfl]; exact h
theorem pass_step {x : Pc} {l : List Pc} {args : List ByteArray} (h : OkOne x (args.headD nothingS)) (h2 : OkPass l (args.drop 1)) : OkPass (x :: l) args := by
  rw [OkPass, if_neg h.1.ne0]; exact ⟨h, h2⟩
/-- One conversion of one number. -/
theorem prf_one {f : ByteArray} {x : Pc} {a : ByteArray} {n : Nat} {TO : List UInt8} (hf : piecesS f.data.toList = some [x]) (hk : okF f.data.toList = true) (hz : f.size ≤ 4096) (hx : OkPc x) (hn : n ≤ 9223372036854775807) (ha : NumArg a.data.toList n) (hp : printfS f [a] = some ⟨TO, [], 0⟩) : PrfP f [a] [x] TO [] := by
  have hm : mergeP [] [x] = [{ b := [] }, x, { b := [] }] := by rw [mergeP, if_neg hx.ne0]; rfl
  have hpass : OkPass (mergeP [] [x]) [a] := by
    rw [hm]
    exact pass_byte (pass_step (one_num hx hn ha) (pass_byte (by rw [OkPass]; trivial)))
  refine ⟨hf, hk, fun y hy => .inr (by rw [List.mem_singleton.1 hy]; exact hx), hz, ⟨hpass, .inr (.inl ?_)⟩, all_of hf hp, .inl rfl⟩
  rw [(once_left _ _ hpass).1, hm]
  simp [convs, hx.ne0]
theorem okX : OkPc pX := okpc_of rfl rfl rfl (by decide) (by decide) (by decide)
theorem okO : OkPc pO := okpc_of rfl rfl rfl (by decide) (by decide) (by decide)
theorem okD : OkPc pD := okpc_of rfl rfl rfl (by decide) (by decide) (by decide)
theorem okI : OkPc pI := okpc_of rfl rfl rfl (by decide) (by decide) (by decide)
theorem prf_X (n : Nat) (h : n ≤ 9223372036854775807) : PrfP fX [bz (dgB 10 n)] [pX] (dgB 16 n) [] := prf_one p_X (by decide) (by decide) okX h (.ten n) (run_X n h)
theorem prf_O (n : Nat) (h : n ≤ 9223372036854775807) : PrfP fO [bz (dgB 10 n)] [pO] (if n = 0 then [48] else 48 :: dgB 8 n) [] := prf_one p_O (by decide) (by decide) okO h (.ten n) (run_O n h)
theorem prf_D (n : Nat) (h : n ≤ 9223372036854775807) : PrfP fD [bz (48 :: 120 :: dgB 16 n)] [pD] (dgB 10 n) [] := prf_one p_D (by decide) (by decide) okD h (.hex n) (run_D n h)
theorem prf_I (n : Nat) (h : n ≤ 9223372036854775807) : PrfP fI [bz (if n = 0 then [48] else 48 :: dgB 8 n)] [pI] (dgB 10 n) [] := by
  refine prf_one p_I (by decide) (by decide) okI h ?_ (run_I n h)
  by_cases h0 : n = 0
  · subst h0; exact .ten 0
  · rw [if_neg h0]; exact .oct n
theorem okF_digs : ∀ (l r : List UInt8), (∀ c ∈ l, isDig c = true) → okF r = true → okF (l ++ r) = true
  | [], r, _, h => h
  | c :: l, r, hd, h => by
    obtain ⟨h1, h2⟩ := dig_bounds (hd c (by simp))
    have n1 : c ≠ 92 := by rintro rfl; exact absurd h2 (by decide)
    have n2 : c ≠ 37 := by rintro rfl; exact absurd h1 (by decide)
    rw [List.cons_append, okF, if_neg n1, if_neg n2]
    simpa using okF_digs l r (fun d hd2 => hd d (by simp [hd2])) h
theorem head_digs (m : Nat) (h : 0 < m) (r : List UInt8) : (dgB 10 m ++ r).head? ≠ some 37 := by
  obtain ⟨d, t, e, _, h2⟩ := dgB_head 10 (by omega) (by omega) m h
  have : ∀ d : Fin 10, sgn d.val ≠ 37 := by decide
  have h3 := this ⟨d, h2⟩
  simp only at h3
  rw [e]
  simpa using h3
theorem okF_W (m : Nat) (h : 0 < m) : okF (fW m) = true := by
  have hd := (dgB_digs m).1
  have k1 : okF (dgB 10 m ++ [100]) = true := okF_digs _ _ hd (by decide)
  have k2 : okF (dgB 10 m ++ 100 :: 44 :: 37 :: 48 :: (dgB 10 m ++ [100])) = true := okF_digs _ _ hd (by simp [okF, k1])
  have k3 : okF (dgB 10 m ++ 100 :: 44 :: 37 :: 45 :: (dgB 10 m ++ 100 :: 44 :: 37 :: 48 :: (dgB 10 m ++ [100]))) = true := okF_digs _ _ hd (by simp [okF, k2])
  unfold fW
  rw [okF, if_neg (by decide), if_pos rfl, k3, bne_iff_ne.2 (head_digs m h _)]
  rfl
theorem prf_W (n m : Nat) (h : n ≤ 9223372036854775807) (h1 : 0 < m) (h2 : m ≤ 1000) : PrfP (bz (fW m)) [bz (dgB 10 n), bz (dgB 10 n), bz (dgB 10 n)] [pW m, { b := [44] }, pWm m, { b := [44] }, pWz m] (wantS 32 n m ++ 44 :: (leftS n m ++ 44 :: wantS 48 n m)) [] := by
  have a1 : OkPc (pW m) := okpc_of rfl rfl rfl h2 (.inr (.inl rfl)) (fun e => by cases e)
  have a2 : OkPc (pWm m) := okpc_of rfl rfl rfl h2 (.inr (.inl rfl)) (fun e => by cases e)
  have a3 : OkPc (pWz m) := okpc_of rfl rfl rfl h2 (.inr (.inl rfl)) (fun e => by cases e)
  have hm : mergeP [] [pW m, { b := [44] }, pWm m, { b := [44] }, pWz m] = [{ b := [] }, pW m, { b := [44] }, pWm m, { b := [44] }, pWz m, { b := [] }] := by
    rw [mergeP, if_neg a1.ne0, mergeP, if_pos rfl, mergeP, if_neg a2.ne0, mergeP, if_pos rfl, mergeP, if_neg a3.ne0]
    rfl
  have hn := fun {x : Pc} (hx : OkPc x) => one_num (a := bz (dgB 10 n)) hx h (.ten n)
  have hpass : OkPass (mergeP [] [pW m, { b := [44] }, pWm m, { b := [44] }, pWz m]) [bz (dgB 10 n), bz (dgB 10 n), bz (dgB 10 n)] := by
    rw [hm]
    exact pass_byte (pass_step (hn a1) (pass_byte (pass_step (hn a2) (pass_byte (pass_step (hn a3) (pass_byte (by rw [OkPass]; trivial)))))))
  have hlen : (dgB 10 m).length ≤ 64 := dgB_length 10 (by omega) 63 m (by omega)
  refine ⟨p_W m h1 h2, okF_W m h1, fun y hy => ?_, ?_, ⟨hpass, .inr (.inl ?_)⟩, all_of (p_W m h1 h2) (run_W n m h h1 h2), .inl rfl⟩
  · simp only [List.mem_cons, List.not_mem_nil, or_false] at hy
    rcases hy with rfl | rfl | rfl | rfl | rfl
    · exact .inr a1
    · exact .inl rfl
    · exact .inr a2
    · exact .inl rfl
    · exact .inr a3
  · show (fW m).length ≤ 4096
    simp only [fW, List.length_cons, List.length_append, List.length_nil]
    omega
  · rw [(once_left _ _ hpass).1, hm]
    simp [convs, a1.ne0, a2.ne0, a3.ne0]
theorem okS : OkPc { letter := 115 } := okpc_of rfl rfl rfl (by decide) (by decide) (by decide)
theorem prf_E (args : List ByteArray) : PrfP fE args pE (eachS args) [] := by
  have hm : mergeP [] pE = [{ b := [60] }, { letter := 115 }, { b := [62, 10] }] := by rfl
  have hpass : ∀ l : List ByteArray, OkPass (mergeP [] pE) l := fun l => by
    rw [hm]
    exact pass_byte (pass_step (one_text okS rfl _) (pass_byte (by rw [OkPass]; trivial)))
  have hleft : ∀ l : List ByteArray, (onceS (mergeP [] pE) l).left = l.drop 1 := fun l => by rw [(once_left _ _ (hpass l)).1, hm]; rfl
  have hok : ∀ (l : List ByteArray) (n : Nat), l.length ≤ n → OkAll (mergeP [] pE) (n + 1) l := by
    intro l
    induction l with
    | nil => exact fun n _ => ⟨hpass [], .inr (.inl (by rw [hleft]; rfl))⟩
    | cons a r ih =>
      intro n hn
      cases n with
      | zero => simp at hn
      | succ n => exact ⟨hpass _, .inr (.inr (by rw [hleft]; exact ih n (by simpa using hn)))⟩
  refine ⟨p_E, by decide, fun y hy => ?_, by decide, hok args args.length (Nat.le_refl _), all_of p_E (run_E args), .inl rfl⟩
  simp only [pE, List.mem_cons, List.not_mem_nil, or_false] at hy
  rcases hy with rfl | rfl | rfl | rfl
  · exact .inl rfl
  · exact .inr okS
  · exact .inl rfl
  · exact .inl rfl
/- The chapter's example. -/
def fG : ByteArray := ⟨#[37, 48, 51, 100, 44, 37, 45, 51, 115, 44, 37, 120, 92, 110]⟩
def aG : List ByteArray := [⟨#[55]⟩, ⟨#[97, 98]⟩, ⟨#[50, 53, 53]⟩, ⟨#[120]⟩]
def g1 : Pc := { letter := 100, zero := true, width := 3 }
def g2 : Pc := { letter := 115, minus := true, width := 3 }
def g3 : Pc := { letter := 120 }
def lG : List Pc := [g1, { b := [44] }, g2, { b := [44] }, g3, { b := [10] }]
def oG : List UInt8 := [48, 48, 55, 44, 97, 98, 32, 44, 102, 102, 10, 48, 48, 48, 44, 32, 32, 32, 44, 48, 10]
theorem p_G : piecesS fG.data.toList = some lG := rfl
theorem prf_G : PrfP fG aG lG oG [bz [120]] := by
  have a1 : OkPc g1 := okpc_of rfl rfl rfl (by decide) (.inr (.inl rfl)) (fun e => by cases e)
  have a2 : OkPc g2 := okpc_of rfl rfl rfl (by decide) (.inl rfl) (fun e => by cases e)
  have a3 : OkPc g3 := okpc_of rfl rfl rfl (by decide) (.inr (.inr (.inr (.inl rfl)))) (fun e => by cases e)
  have hm : mergeP [] lG = [{ b := [] }, g1, { b := [44] }, g2, { b := [44] }, g3, { b := [10] }] := rfl
  have n7 : NumArg (⟨#[55]⟩ : ByteArray).data.toList 7 := (show dgB 10 7 = [55] from rfl) ▸ NumArg.ten 7
  have n255 : NumArg (⟨#[50, 53, 53]⟩ : ByteArray).data.toList 255 := (show dgB 10 255 = [50, 53, 53] from rfl) ▸ NumArg.ten 255
  have n0 : NumArg nothingS.data.toList 0 := NumArg.nil
  have h1 : OkPass (mergeP [] lG) aG := by
    rw [hm]
    exact pass_byte (pass_step (one_num a1 (by decide) n7) (pass_byte (pass_step (one_text a2 rfl _) (pass_byte (pass_step (one_num a3 (by decide) n255) (pass_byte (by rw [OkPass]; trivial)))))))
  have h2 : OkPass (mergeP [] lG) [⟨#[120]⟩] := by
    rw [hm]
    exact pass_byte (pass_step ⟨a1, fun _ => .inr ⟨rfl, .inl rfl⟩⟩ (pass_byte (pass_step (one_text a2 rfl _) (pass_byte (pass_step (one_num a3 (by decide) n0) (pass_byte (by rw [OkPass]; trivial)))))))
  have l1 : (onceS (mergeP [] lG) aG).left = [⟨#[120]⟩] := by rw [(once_left _ _ h1).1]; rfl
  have l2 : (onceS (mergeP [] lG) [⟨#[120]⟩]).left = [] := by rw [(once_left _ _ h2).1]; rfl
  refine ⟨p_G, by decide, fun y hy => ?_, by decide, ⟨h1, .inr (.inr ?_)⟩, ?_, .inr rfl⟩
  · simp only [lG, List.mem_cons, List.not_mem_nil, or_false] at hy
    rcases hy with rfl | rfl | rfl | rfl | rfl | rfl
    · exact .inr a1
    · exact .inl rfl
    · exact .inr a2
    · exact .inl rfl
    · exact .inr a3
    · exact .inl rfl
  · rw [l1]
    exact ⟨h2, .inr (.inl l2)⟩
  · rw [all_merge]
    decide +kernel
end Go.Proofs.YteimilnecahifaaGreatDoor.Nm
