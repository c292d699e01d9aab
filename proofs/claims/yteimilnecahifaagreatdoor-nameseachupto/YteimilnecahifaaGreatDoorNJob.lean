/- Names: what printf tells where the laws call it. -/
import Derived.Test.YteimilnecahifaaGreatDoorNMath
import Derived.Lib.Hide
import Derived.Lib.ConvBytes
import Derived.Lib.SlBytesConst
import Derived.Deep.RegionWith
import Derived.Deep.RegionLaw
import Derived.Deep.RegionHeld3
import Derived.Maps.AppendAt
import Derived.Test.YteimilnecahifaaGreatDoorKBefall
import Derived.Laws.Strings
import Derived.Deep.Cut
namespace Go.Proofs.YteimilnecahifaaGreatDoor.Nm
open Go.Proofs.YteimilnecahifaaGreatDoor

def bz (l : List UInt8) : ByteArray := ⟨l.toArray⟩
theorem bz_list (l : List UInt8) : (bz l).data.toList = l := rfl
theorem piecesN_nil (n : Nat) : piecesN n [] = some [] := by cases n <;> rfl
theorem piecesN_conv {n : Nat} {r l : List UInt8} {x : Pc} (h : convP r = some (x, l)) (h2 : r.head? ≠ some 37) : piecesN (n + 1) (37 :: r) = (piecesN n l).map fun p => x :: p := by
  rw [piecesN, if_neg (by decide), if_pos rfl, if_neg h2, h]; rfl
theorem piecesN_byte {n : Nat} {c : UInt8} {r : List UInt8} (h : c ≠ 92) (h2 : c ≠ 37) : piecesN (n + 1) (c :: r) = (piecesN n r).map fun p => { b := [c] } :: p := by
  rw [piecesN, if_neg h, if_neg h2]
/-- One conversion of one argument. -/
theorem printf_one {f : ByteArray} {x : Pc} {a : ByteArray} (h : piecesS f.data.toList = some [x]) (h0 : x.letter ≠ 0) {out : List UInt8} (hc : convS x a = (out, false, false)) : printfS f [a] = some ⟨out, [], 0⟩ := by
  have ho : onceS [x] [a] = ⟨out, [], [], true, false⟩ := by
    simp [onceS, h0, hc]
  simp [printfS, h, allS, ho]
theorem conv_num {x : Pc} {a : ByteArray} {n : Int} (h : valueS a.data.toList = some n) (h1 : x.letter ≠ 99 ∧ x.letter ≠ 115 ∧ x.letter ≠ 98) : convS x a = (toldS x n, false, false) := by
  rw [convS, if_neg h1.1, if_neg h1.2.1, if_neg h1.2.2, h]
theorem sizeS_nn {x : Pc} {n : Nat} (h : n ≤ 9223372036854775807) : sizeS x (n : Int) = n := by
  unfold sizeS
  split
  · exact Int.natAbs_natCast n
  · rw [Int.emod_eq_of_lt (by omega) (by omega)]; exact Int.toNat_natCast n
/-- A number from 0 on, without a precision, has the digits of its own. -/
theorem precD_plain {x : Pc} {n : Nat} (hn : n ≤ 9223372036854775807) (hp : x.prec = none) (hl : x.letter ≠ 88) : precD x (n : Int) = dgB (baseL x.letter) n := by
  have hB : 2 ≤ baseL x.letter := by
    unfold baseL
    split
    · omega
    · split <;> omega
  have hB2 : 0 < baseL x.letter := by omega
  rw [precD, sizeS_nn hn, hp]
  by_cases h0 : n = 0
  · subst h0
    rw [dgB_small hB2]
    simp only [digsS, if_pos, many]
    rfl
  · have hne := dgB_ne (baseL x.letter) n hB
    have hlen : 1 ≤ (dgB (baseL x.letter) n).length := by
      cases hd : dgB (baseL x.letter) n with
      | nil => exact absurd hd hne
      | cons a b => simp
    rw [digsS, if_neg h0, if_neg hl]
    simp [many, show 1 - (dgB (baseL x.letter) n).length = 0 by omega]
def fX : ByteArray := ⟨#[37, 120]⟩
def fO : ByteArray := ⟨#[37, 35, 111]⟩
def fD : ByteArray := ⟨#[37, 100]⟩
def fI : ByteArray := ⟨#[37, 105]⟩
def pX : Pc := { letter := 120 }
def pO : Pc := { letter := 111, sharp := true }
def pD : Pc := { letter := 100 }
def pI : Pc := { letter := 105 }
theorem p_X : piecesS fX.data.toList = some [pX] := rfl
theorem p_O : piecesS fO.data.toList = some [pO] := rfl
theorem p_D : piecesS fD.data.toList = some [pD] := rfl
theorem p_I : piecesS fI.data.toList = some [pI] := rfl
theorem told_D (n : Nat) (h : n ≤ 9223372036854775807) (x : Pc) (hx : x = pD ∨ x = pI) : toldS x (n : Int) = dgB 10 n := by
  have hp := precD_plain (x := x) h (by rcases hx with rfl | rfl <;> rfl) (by rcases hx with rfl | rfl <;> decide)
  have hs : signS x (n : Int) = [] := by
    have h1 : ¬ (n : Int) < 0 := by omega
    rcases hx with rfl | rfl <;> simp [signS, pD, pI, isSigned, h1]
  have hb : baseL x.letter = 10 := by rcases hx with rfl | rfl <;> rfl
  have hsh : sharpD x (n : Int) = dgB 10 n := by
    rw [sharpD, if_neg (by rcases hx with rfl | rfl <;> simp [pD, pI]), hp, hb]
  rw [toldS, zeroD, if_neg (by rcases hx with rfl | rfl <;> simp [pD, pI]), hs, hsh]
  rcases hx with rfl | rfl <;> simp [wideS, pD, pI, many]
theorem told_X (n : Nat) (h : n ≤ 9223372036854775807) : toldS pX (n : Int) = dgB 16 n := by
  have hp := precD_plain (x := pX) h rfl (by decide)
  have hs : signS pX (n : Int) = [] := rfl
  have hsh : sharpD pX (n : Int) = dgB 16 n := by
    rw [sharpD, if_neg (by simp [pX]), hp]; rfl
  rw [toldS, zeroD, if_neg (by simp [pX]), hs, hsh]
  simp [wideS, pX, many]
theorem sgn8_ne : ∀ d : Fin 8, 0 < d.val → sgn d.val ≠ 48 := by decide
theorem told_O (n : Nat) (h : n ≤ 9223372036854775807) : toldS pO (n : Int) = if n = 0 then [48] else 48 :: dgB 8 n := by
  have hp := precD_plain (x := pO) h rfl (by decide)
  have hb : baseL pO.letter = 8 := rfl
  rw [hb] at hp
  have hs : signS pO (n : Int) = [] := rfl
  have hsh : sharpD pO (n : Int) = if n = 0 then [48] else 48 :: dgB 8 n := by
    rw [sharpD, hp]
    by_cases h0 : n = 0
    · subst h0; rfl
    · obtain ⟨d, r, e, hd, hd2⟩ := dgB_head 8 (by omega) (by omega) n (by omega)
      have := sgn8_ne ⟨d, hd2⟩ hd
      simp only at this
      rw [if_neg h0, if_pos ⟨rfl, rfl, by rw [e]; simpa using this⟩]
  rw [toldS, zeroD, if_neg (by simp [pO]), hs, hsh]
  simp [wideS, pO, many]
/- What the law of numbers asks. -/
theorem run_X (n : Nat) (h : n ≤ 9223372036854775807) : printfS fX [bz (dgB 10 n)] = some ⟨dgB 16 n, [], 0⟩ :=
  printf_one p_X (by decide) ((conv_num (value_ten n h) (by decide)).trans (by rw [told_X n h]))
theorem run_O (n : Nat) (h : n ≤ 9223372036854775807) : printfS fO [bz (dgB 10 n)] = some ⟨if n = 0 then [48] else 48 :: dgB 8 n, [], 0⟩ :=
  printf_one p_O (by decide) ((conv_num (value_ten n h) (by decide)).trans (by rw [told_O n h]))
theorem run_D (n : Nat) (h : n ≤ 9223372036854775807) : printfS fD [bz (48 :: 120 :: dgB 16 n)] = some ⟨dgB 10 n, [], 0⟩ :=
  printf_one p_D (by decide) ((conv_num (value_hex n h) (by decide)).trans (by rw [told_D n h pD (.inl rfl)]))
theorem run_I (n : Nat) (h : n ≤ 9223372036854775807) : printfS fI [bz (if n = 0 then [48] else 48 :: dgB 8 n)] = some ⟨dgB 10 n, [], 0⟩ := by
  have hv : valueS (bz (if n = 0 then [48] else 48 :: dgB 8 n)).data.toList = some (n : Int) := by
    by_cases h0 : n = 0
    · subst h0; rfl
    · rw [if_neg h0]; exact value_oct n (by omega) h
  exact printf_one p_I (by decide) ((conv_num hv (by decide)).trans (by rw [told_D n h pI (.inr rfl)]))
/-- The format of three widths. -/
def fW (m : Nat) : List UInt8 := 37 :: (dgB 10 m ++ 100 :: 44 :: 37 :: 45 :: (dgB 10 m ++ 100 :: 44 :: 37 :: 48 :: (dgB 10 m ++ [100])))
def pW (m : Nat) : Pc := { letter := 100, width := m }
def pWm (m : Nat) : Pc := { letter := 100, minus := true, width := m }
def pWz (m : Nat) : Pc := { letter := 100, zero := true, width := m }
theorem flag_none {d : Nat} (h : 0 < d) (h2 : d < 10) (x : Pc) : flagS x (sgn d) = none := by
  have : ∀ d : Fin 10, 0 < d.val → sgn d.val ≠ 45 ∧ sgn d.val ≠ 43 ∧ sgn d.val ≠ 32 ∧ sgn d.val ≠ 48 ∧ sgn d.val ≠ 35 ∧ sgn d.val ≠ 37 := by decide
  obtain ⟨a, b, c, e, f, _⟩ := this ⟨d, h2⟩ h
  simp only at a b c e f
  simp [flagS, a, b, c, e, f]
theorem flags_width (m : Nat) (h : 0 < m) (x : Pc) (r : List UInt8) : flagsS x (dgB 10 m ++ r) = (x, dgB 10 m ++ r) ∧ (dgB 10 m ++ r).head? ≠ some 37 := by
  obtain ⟨d, t, e, h1, h2⟩ := dgB_head 10 (by omega) (by omega) m h
  rw [e]
  have : ∀ d : Fin 10, sgn d.val ≠ 37 := by decide
  have h3 := this ⟨d, h2⟩
  simp only at h3
  exact ⟨by rw [List.cons_append, flagsS, flag_none h1 h2], by simpa using h3⟩
theorem convP_of {l l' r r' : List UInt8} {x y : Pc} {m : Nat} (hf : flagsS {} l = (x, r)) (hu : upToS r = some (m, r')) (hp : precS { x with width := m } r' = some (y, l')) : convP l = some (y, l') := by
  rw [convP, hf]
  simp only
  rw [hu]
  exact hp
theorem prec_d (x : Pc) (r : List UInt8) : precS x (100 :: r) = some ({ x with letter := 100 }, r) := rfl
theorem p_W (m : Nat) (h : 0 < m) (h2 : m ≤ 1000) : piecesS (fW m) = some [pW m, { b := [44] }, pWm m, { b := [44] }, pWz m] := by
  obtain ⟨k, hk⟩ : ∃ k, (fW m).length = k + 5 := ⟨(fW m).length - 5, by simp only [fW, List.length_cons, List.length_append]; omega⟩
  have h100 : isDig 100 = false := by decide
  have c3 : convP (48 :: (dgB 10 m ++ [100])) = some (pWz m, []) := convP_of (x := { zero := true }) (r := dgB 10 m ++ [100]) (flags_width m h _ _).1 (upTo_width m h2 100 [] h100) (prec_d _ _)
  have c2 : ∀ r, convP (45 :: (dgB 10 m ++ 100 :: r)) = some (pWm m, r) := fun r => convP_of (x := { minus := true }) (r := dgB 10 m ++ 100 :: r) (flags_width m h _ _).1 (upTo_width m h2 100 r h100) (prec_d _ _)
  have c1 : ∀ r, convP (dgB 10 m ++ 100 :: r) = some (pW m, r) := fun r => convP_of (x := {}) (r := dgB 10 m ++ 100 :: r) (flags_width m h _ _).1 (upTo_width m h2 100 r h100) (prec_d _ _)
  rw [piecesS, hk, fW, piecesN_conv (c1 _) (flags_width m h {} _).2, piecesN_byte (by decide) (by decide), piecesN_conv (c2 _) (by simp), piecesN_byte (by decide) (by decide), piecesN_conv c3 (by simp), piecesN_nil]
  rfl
/-- What a width makes of a number's digits: blanks ahead, behind, noughts ahead. -/
def wantS (c : UInt8) (n m : Nat) : List UInt8 := many c (m - (dgB 10 n).length) ++ dgB 10 n
def leftS (n m : Nat) : List UInt8 := dgB 10 n ++ many 32 (m - (dgB 10 n).length)
theorem told_W (n m : Nat) (h : n ≤ 9223372036854775807) : toldS (pW m) (n : Int) = wantS 32 n m ∧ toldS (pWm m) (n : Int) = leftS n m ∧ toldS (pWz m) (n : Int) = wantS 48 n m := by
  have h1 : ¬ (n : Int) < 0 := by omega
  refine ⟨?_, ?_, ?_⟩
  · have hp := precD_plain (x := pW m) h rfl (by show (100 : UInt8) ≠ 88; decide)
    have hsh : sharpD (pW m) (n : Int) = dgB 10 n := by
      rw [sharpD, if_neg (by simp [pW]), hp]; rfl
    have hs : signS (pW m) (n : Int) = [] := by simp [signS, pW, isSigned, h1]
    rw [toldS, zeroD, if_neg (by simp [pW]), hs, hsh]
    simp [wideS, pW, wantS]
  · have hp := precD_plain (x := pWm m) h rfl (by show (100 : UInt8) ≠ 88; decide)
    have hsh : sharpD (pWm m) (n : Int) = dgB 10 n := by
      rw [sharpD, if_neg (by simp [pWm]), hp]; rfl
    have hs : signS (pWm m) (n : Int) = [] := by simp [signS, pWm, isSigned, h1]
    rw [toldS, zeroD, if_neg (by simp [pWm]), hs, hsh]
    simp [wideS, pWm, leftS]
  · have hp := precD_plain (x := pWz m) h rfl (by show (100 : UInt8) ≠ 88; decide)
    have hsh : sharpD (pWz m) (n : Int) = dgB 10 n := by
      rw [sharpD, if_neg (by simp [pWz]), hp]; rfl
    have hs : signS (pWz m) (n : Int) = [] := by simp [signS, pWz, isSigned, h1]
    rw [toldS, zeroD, if_pos ⟨rfl, rfl, rfl⟩, hs, hsh]
    simp [wideS, pWz, wantS, many]
    omega
theorem run_W (n m : Nat) (h : n ≤ 9223372036854775807) (h1 : 0 < m) (h2 : m ≤ 1000) : printfS (bz (fW m)) [bz (dgB 10 n), bz (dgB 10 n), bz (dgB 10 n)] = some ⟨wantS 32 n m ++ 44 :: (leftS n m ++ 44 :: wantS 48 n m), [], 0⟩ := by
  obtain ⟨t1, t2, t3⟩ := told_W n m h
  have hv := value_ten n h
  have k1 : convS (pW m) (bz (dgB 10 n)) = (wantS 32 n m, false, false) := (conv_num hv (by show (100 : UInt8) ≠ 99 ∧ (100 : UInt8) ≠ 115 ∧ (100 : UInt8) ≠ 98; decide)).trans (by rw [t1])
  have k2 : convS (pWm m) (bz (dgB 10 n)) = (leftS n m, false, false) := (conv_num hv (by show (100 : UInt8) ≠ 99 ∧ (100 : UInt8) ≠ 115 ∧ (100 : UInt8) ≠ 98; decide)).trans (by rw [t2])
  have k3 : convS (pWz m) (bz (dgB 10 n)) = (wantS 48 n m, false, false) := (conv_num hv (by show (100 : UInt8) ≠ 99 ∧ (100 : UInt8) ≠ 115 ∧ (100 : UInt8) ≠ 98; decide)).trans (by rw [t3])
  have ho : onceS [pW m, { b := [44] }, pWm m, { b := [44] }, pWz m] [bz (dgB 10 n), bz (dgB 10 n), bz (dgB 10 n)] = ⟨wantS 32 n m ++ 44 :: (leftS n m ++ 44 :: wantS 48 n m), [], [], true, false⟩ := by
    have l1 : (pW m).letter ≠ 0 := by show (100 : UInt8) ≠ 0; decide
    have l2 : (pWm m).letter ≠ 0 := by show (100 : UInt8) ≠ 0; decide
    have l3 : (pWz m).letter ≠ 0 := by show (100 : UInt8) ≠ 0; decide
    simp [onceS, l1, l2, l3, k1, k2, k3]
  have hp := p_W m h1 h2
  rw [printfS, bz_list, hp]
  simp [allS, ho]
/-- The format of one text. -/
def fE : ByteArray := ⟨#[60, 37, 115, 62, 92, 110]⟩
def pE : List Pc := [{ b := [60] }, { letter := 115 }, { b := [62] }, { b := [10] }]
theorem p_E : piecesS fE.data.toList = some pE := rfl
def oneE (a : ByteArray) : List UInt8 := 60 :: (a.data.toList ++ [62, 10])
theorem once_E (a : ByteArray) (r : List ByteArray) : onceS pE (a :: r) = ⟨oneE a, [], r, true, false⟩ := by
  simp [onceS, pE, convS, wideS, many, oneE]
theorem all_E : ∀ (r : List ByteArray) (n : Nat) (a : ByteArray), r.length ≤ n → allS pE (n + 1) (a :: r) = (((a :: r).map oneE).flatten, [])
  | [], n, a, _ => by rw [allS, once_E]; simp
  | b :: r, 0, a, h => by simp at h
  | b :: r, n + 1, a, h => by
    rw [allS, once_E]
    simp only [Bool.false_eq_true, Bool.true_eq_false, List.cons_ne_nil, or_self, if_false]
    rw [all_E r n b (by simpa using h)]
    simp
def eachS (args : List ByteArray) : List UInt8 := if args = [] then [60, 62, 10] else (args.map oneE).flatten
theorem run_E (args : List ByteArray) : printfS fE args = some ⟨eachS args, [], 0⟩ := by
  rw [printfS, p_E]
  cases args with
  | nil => rfl
  | cons a r => simp [all_E r (r.length + 1) a (by omega), eachS]
/- The chapter's examples. -/
def xA : List ByteArray := [nEcho, ⟨#[45, 110]⟩, ⟨#[97]⟩]
def xB : List ByteArray := [nBase, ⟨#[47, 97, 47, 98, 46, 99]⟩, ⟨#[46, 99]⟩]
def xC : List ByteArray := [nDir, ⟨#[47, 97, 47, 47, 98, 47]⟩]
def xD : List ByteArray := [nPrintf, ⟨#[37, 48, 51, 100, 44, 37, 45, 51, 115, 44, 37, 120, 92, 110]⟩, ⟨#[55]⟩, ⟨#[97, 98]⟩, ⟨#[50, 53, 53]⟩, ⟨#[120]⟩]
theorem res_of {o : Option Res} {a b : List UInt8} {c : Nat} (h : o.map (fun r => (r.out, r.err, r.st)) = some (a, b, c)) : o = some ⟨a, b, c⟩ := by
  cases o with
  | none => cases h
  | some r => cases r; cases h; rfl
theorem ex_A : namesS xA = some ⟨[45, 110, 32, 97, 10], [], 0⟩ := res_of (by decide +kernel)
theorem ex_B : namesS xB = some ⟨[98, 10], [], 0⟩ := res_of (by decide +kernel)
theorem ex_C : namesS xC = some ⟨[47, 97, 10], [], 0⟩ := res_of (by decide +kernel)
theorem ex_D : namesS xD = some ⟨[48, 48, 55, 44, 97, 98, 32, 44, 102, 102, 10, 48, 48, 48, 44, 32, 32, 32, 44, 48, 10], badLine ⟨#[120]⟩, 1⟩ := res_of (by decide +kernel)
end Go.Proofs.YteimilnecahifaaGreatDoor.Nm

namespace Go.Proofs.YteimilnecahifaaGreatDoor.Nm
open Go.Proofs.YteimilnecahifaaGreatDoor Go.Proofs.YteimilnecahifaaGreatDoor.Op
open Go.RowKit

def u8s (l : List UInt8) : List Value := l.map fun c => .int .u8 (c.toNat : Int)
theorem u8s_length (l : List UInt8) : (u8s l).length = l.length := by simp [u8s]
theorem h_cell {w : World} {b T : Nat} {cs : Array Value} {fz : Nat × Nat} (h : w.heap[b]? = some (.cells cs T fz)) (i : Nat) {v : Value} (hi : cs[i]? = some v) : w.cell? ⟨b, i, none⟩ = some v := by simp [World.cell?, h, hi]
theorem h_fz {w : World} {b T : Nat} {cs : Array Value} (h : w.heap[b]? = some (.cells cs T)) (i : Nat) : w.frozen? ⟨b, i, none⟩ = false := by simp [World.frozen?, h]
theorem h_lt {w : World} {b : Nat} {o : Obj} (h : w.heap[b]? = some o) : b < w.heap.size := (Array.getElem?_eq_some_iff.1 h).1
theorem h_set {w : World} {b T : Nat} {cs : Array Value} (h : w.heap[b]? = some (.cells cs T)) (i : Nat) (v : Value) : (w.setCell ⟨b, i, none⟩ v).heap[b]? = some (.cells (cs.setIfInBounds i v) T) := by
  simp [World.setCell, Array.getElem?_modify, h]
theorem al_new (w : World) (o : Obj) : (w.alloc o).heap[w.heap.size]? = some o := by show (w.heap.push _)[w.heap.size]? = _; simp
theorem below_drewN {n : Nat} {w : World} {q : Nat} : Below n w (w.drewN q) := ⟨rfl, rfl, rfl, Nat.le_refl _, fun _ _ => rfl⟩
theorem below_drew {n : Nat} {a b : World} (h : Below n a b) : Below n a b.drew := h.trans ⟨rfl, rfl, rfl, Nat.le_refl _, fun _ _ => rfl⟩
/-- A row of bytes of one's own. -/
abbrev Row (w : World) (B : Nat) (v : Value) (l : List UInt8) : Prop := w.ownsRow B 5 1 v l.length (u8s l)
theorem row_low {W : World} {B B' : Nat} {v : Value} {l : List UInt8} (h : Row W B v l) (hb : B' ≤ B) : Row W B' v l := by
  refine ⟨h.1, ?_⟩
  rcases h.2 with hn | ⟨g, cap, cur, h1, hb2, r⟩
  · exact .inl hn
  · exact .inr ⟨g, cap, cur, h1, by omega, r⟩
theorem row_turn {w w1 : World} {B : Nat} {ov : Value} {l : List UInt8} (h : Row w B ov l) (hB : Below w.heap.size w w1) : Row w1 B ov l := by
  rcases h.2 with hn | ⟨g, cap, cur, rfl, hb, hg, r⟩
  · exact ⟨h.1, .inl hn⟩
  · exact ⟨h.1, .inr ⟨g, cap, cur, rfl, hb, (hB.block g (h_lt hg)).trans hg, r⟩⟩
theorem row_set {w : World} {xb : Nat} {ov : Value} {l : List UInt8} (h : Row w (xb + 1) ov l) (i : Nat) (v : Value) : Row (w.setCell ⟨xb, i, none⟩ v) (xb + 1) ov l := by
  rcases h.2 with hn | ⟨g, cap, cur, rfl, hb, hg, r⟩
  · exact ⟨h.1, .inl hn⟩
  · refine ⟨h.1, .inr ⟨g, cap, cur, rfl, hb, ?_, r⟩⟩
    simp only [World.setCell, Array.getElem?_modify]
    rw [if_neg (by omega)]
    exact hg
theorem row_shape {w : World} {B : Nat} {v : Value} {l : List UInt8} (h : Row w B v l) : ∃ a c, v = .slice a l.length c := own_slice2 h
theorem conv_nil (w : World) : (convert 27 9 (.slice none 0 0)).run Tryz.prog w = .ok (.string ⟨#[]⟩) w := by kernel_rfl
/-- A row of bytes as a text. -/
theorem str_row {w : World} {B : Nat} {v : Value} {d : List UInt8} (h : Row w B v d) : (convert 27 9 v).run Tryz.prog w = .ok (.string (bz d)) w := by
  rcases h.2 with ⟨rfl, h0⟩ | ⟨g, cap, cur, rfl, hb, hg, _⟩
  · have : d = [] := List.length_eq_zero_iff.1 h0
    subst this
    exact conv_nil w
  · refine run_convert_bytes_back (P := Tryz.prog) _ 27 9 5 ⟨g, 0, none⟩ cap d Tryz.underlying27 Tryz.underlying5 Tryz.underlying9 (fun j hj => ?_)
    rw [Addr.add_lit]
    have h1 := own_cell2 h j (by omega)
    rw [Nat.zero_add, h1]
    simp [u8s, hj]
theorem bz_size (l : List UInt8) : (bz l).size = l.length := by simp [bz, ByteArray.size]
theorem bz_of (s : ByteArray) : bz s.data.toList = s := rfl
theorem bz_app (a b : List UInt8) : bz a ++ bz b = bz (a ++ b) := by
  apply ByteArray.ext
  simp [bz]
theorem bz_inj {a b : List UInt8} (h : bz a = bz b) : a = b := by
  have := congrArg (fun s => s.data.toList) h
  exact this
/-- Texts compared. -/
theorem eq_bz (a b : List UInt8) : ((bz a).toList == (bz b).toList) = decide (a = b) := by
  rw [show (bz a).toList = a from by rw [ByteArray.toList_eq]; rfl, show (bz b).toList = b from by rw [ByteArray.toList_eq]; rfl]
  by_cases h : a = b
  · subst h; simp
  · simp [h]
theorem beq_bz_yes {a b : List UInt8} (h : a = b) : ((bz a).toList == (bz b).toList) = true := by rw [eq_bz]; simpa using h
theorem beq_bz_no {a b : List UInt8} (h : a ≠ b) : ((bz a).toList == (bz b).toList) = false := by rw [eq_bz]; simpa using h
/-- Texts that were just written down. -/
theorem strs_lit {w w2 : World} {ss : List ByteArray} (hB : Below (w.alloc (.cells (ss.map Value.string).toArray 9)).heap.size (w.alloc (.cells (ss.map Value.string).toArray 9)) w2) (hl : ss.length ≤ 1000) : StrsAt w2 (.slice (some ⟨w.heap.size, 0, none⟩) ss.length ss.length) ss := by
  refine .inr ⟨w.heap.size, 0, ss.length, rfl, ⟨Nat.le_refl _, by omega⟩, Nat.lt_of_lt_of_le (by simp) hB.size, fun j hj => ?_⟩
  rw [hB.cell (p := ⟨w.heap.size, 0 + j, none⟩) (by simp)]
  have hh : (w.alloc (.cells (ss.map Value.string).toArray 9)).heap[w.heap.size]? = some (.cells (ss.map Value.string).toArray 9) := by
    show (w.heap.push _)[w.heap.size]? = _
    simp
  simp only [World.cell?, hh]
  simp [nth, hj]
theorem strs_own {W : World} {base n : Nat} {v : Value} {l : List ByteArray} (h : W.ownsRow base 9 1 v n (l.map .string)) (hn : n = l.length) : StrsAt W v l := by
  subst hn
  rcases h.2 with ⟨rfl, h0⟩ | ⟨g, cap, cur, rfl, hb, hg, hle, hcap, hsz, ht⟩
  · exact .inl ⟨rfl, List.length_eq_zero_iff.1 h0⟩
  · refine .inr ⟨g, 0, cap, rfl, ⟨hle, by unfold maxLen at hcap; exact hcap⟩, h_lt hg, fun j hj => ?_⟩
    have h1 := own_cell2 h j (by omega)
    rw [Nat.zero_add, h1]
    simp [nth, hj]
end Go.Proofs.YteimilnecahifaaGreatDoor.Nm

namespace Go.Proofs.YteimilnecahifaaGreatDoor.Nm
open Go.Proofs.YteimilnecahifaaGreatDoor Go.Proofs.YteimilnecahifaaGreatDoor.Op
open Go.RowKit

theorem run_append_none (ty : TypeId) (b : Option Addr) (n cap : Nat) (h : n ≤ cap) (w : World) : (Builtin.append_ #[32, 32] ty #[.slice b n cap, .slice none 0 0]).run Tryz.prog w = .ok (.slice b n cap) w := by
  have z := Tryz.sizeOf9
  cases b with
  | none => simp [Builtin.append_, go_sem, z, Builtin.lenOf, Builtin.firstCells, h]
  | some a => simp [Builtin.append_, go_sem, z, Builtin.lenOf, Builtin.firstCells, h, storeCells]
theorem news_strs {w : World} {b off : Nat} {ss : List ByteArray} (h : ∀ j, j < ss.length → w.cell? ⟨b, off + j, none⟩ = some (.string (nth ss j))) : ∀ j u, (ss.map Value.string)[j]? = some u → w.cell? ((⟨b, off, none⟩ : Addr).add j) = some u := by
  intro j u hu
  have hj : j < ss.length := by have := (List.getElem?_eq_some_iff.1 hu).1; simpa using this
  rw [Addr.add_lit, h j hj, ← hu]
  simp [nth, hj]
theorem strs_one (l : List ByteArray) : ∀ u ∈ l.map Value.string, u.oneCell' = true := by
  intro u hu
  simp only [List.mem_map] at hu
  obtain ⟨s, _, rfl⟩ := hu
  rfl
/-- Strings onto strings of one's own. -/
theorem wpList_append_strs {w : World} {ops : Array Oper} {rest : List Oper} {o : Oper} {a : Act} {Q : Exit → Act → World → Prop} (hgd : o.guard = none) (s x : Operand)
    (ho : o.op = .call { callee := .builtin .append, args := #[s, x], argTypes := #[32, 32] }) (base : Nat) (v : Value) (n : Nat) (xs : List Value) (hs : a.eval s = v) (hown : w.ownsRow base 9 1 v n xs)
    (vo : Value) (l : List ByteArray) (hx : a.eval x = vo) (hl : StrsAt w vo l) (hb1 : n + l.length ≤ 2097152) (hbase : base ≤ w.heap.size)
    (h : ∀ v' w', w'.ownsRow base 9 1 v' (n + l.length) (xs ++ l.map .string) → w.grownBy w' v.ownBlock → wpList Tryz.prog ops Q rest (a.put o.dst v') w') : wpList Tryz.prog ops Q (o :: rest) a w := by
  obtain ⟨j0, ji, jz0, jz1, jz2⟩ := info_parts2 info_str
  rcases hl with ⟨rfl, rfl⟩ | ⟨b, off, cap, rfl, hcap, hb, hc⟩
  · refine wpList_plain hgd fun _ hK => ?_
    have hsl : ∃ b cap, v = .slice b n cap ∧ n ≤ cap := by
      rcases hown.2 with ⟨rfl, rfl⟩ | ⟨g, cap, cur, rfl, _, _, hle, _⟩
      · exact ⟨none, 0, rfl, Nat.le_refl _⟩
      · exact ⟨_, cap, rfl, hle⟩
    obtain ⟨b, cap, rfl, hle⟩ := hsl
    unfold Oper.wp execOp
    simp only [ho, resolve, invoke, builtin, Sem.run_bind, Sem.run_pure, Result.andThen_ok, List.map_toArray, List.map_cons, List.map_nil, hs, hx, run_append_none _ b n cap hle w]
    exact hK _ _ (h _ w (by simpa using hown) ⟨rfl, rfl, rfl, Nat.le_refl _, fun _ _ _ => rfl⟩)
  · exact wpList_append_own w hgd s x 32 ho base 9 j0 (.string ⟨#[]⟩) 1 16 Tryz.underlying32 ji jz0 jz1 jz2 rfl (by decide) v n xs hs hown ⟨b, off, none⟩ l.length cap (l.map .string) hx (by rw [List.length_map, Nat.mul_one]) (news_strs hc) (strs_one l) (by unfold maxLen; omega) (by omega) hbase (fun v' w' h1 h2 _ => h v' w' h1 h2)
end Go.Proofs.YteimilnecahifaaGreatDoor.Nm

namespace Go.Proofs.YteimilnecahifaaGreatDoor.Nm
open Go.Proofs.YteimilnecahifaaGreatDoor Go.Proofs.YteimilnecahifaaGreatDoor.Op
open Go.RowKit

/-- A job of arguments alone. -/
abbrev jobN (av : Value) : Value := .agg #[av, .slice none 0 0, .string ⟨#[]⟩, .slice none 0 0, .slice none 0 0, .int .i64 3, .int .i64 9, .int .i64 9, .slice none 0 0, .int .i64 0, .slice none 0 0]
/-- A result: what was told and said, the status, the rest. -/
def resN (ov ev : Value) (st : Nat) (n1 n2 n3 : Int) : Value := .agg #[ov, ev, .int .i64 (st : Int), .slice none 0 0, .int .i64 n1, .int .i64 n2, .int .i64 n3]
def RunN (w : World) (r : Res) (e : Ending) (w' : World) : Prop :=
  ∃ ov ev n1 n2 n3, e = .returned (.tuple #[resN ov ev r.st n1 n2 n3, .bool true]) ∧ Row w' w.heap.size ov r.out ∧ Row w' w.heap.size ev r.err ∧ Below w.heap.size w w'
def LawN (w : World) (r : Res) (e : Ending) (w' : World) : Prop :=
  ∃ ov ev n1 n2 n3, e = .returned (resN ov ev r.st n1 n2 n3) ∧ Row w' w.heap.size ov r.out ∧ Row w' w.heap.size ev r.err ∧ Below w.heap.size w w'
theorem set7 {w : World} {rb T : Nat} {a0 a1 a2 a3 a4 a5 a6 : Value} (h : w.heap[rb]? = some (.cells #[a0, a1, a2, a3, a4, a5, a6] T)) (b0 b1 b2 b3 b4 b5 b6 : Value) :
    (((((((w.setCell ⟨rb, 0, none⟩ b0).setCell ⟨rb, 1, none⟩ b1).setCell ⟨rb, 2, none⟩ b2).setCell ⟨rb, 3, none⟩ b3).setCell ⟨rb, 4, none⟩ b4).setCell ⟨rb, 5, none⟩ b5).setCell ⟨rb, 6, none⟩ b6).heap[rb]? = some (.cells #[b0, b1, b2, b3, b4, b5, b6] T) := by
  have := h_set (h_set (h_set (h_set (h_set (h_set (h_set h 0 b0) 1 b1) 2 b2) 3 b3) 4 b4) 5 b5) 6 b6
  simpa using this
theorem below7 {w0 w : World} {B rb : Nat} (h : Below B w0 w) (hb : B ≤ rb) (b0 b1 b2 b3 b4 b5 b6 : Value) :
    Below B w0 (((((((w.setCell ⟨rb, 0, none⟩ b0).setCell ⟨rb, 1, none⟩ b1).setCell ⟨rb, 2, none⟩ b2).setCell ⟨rb, 3, none⟩ b3).setCell ⟨rb, 4, none⟩ b4).setCell ⟨rb, 5, none⟩ b5).setCell ⟨rb, 6, none⟩ b6) :=
  ((((((h.setCell (p := ⟨rb, 0, none⟩) hb _).setCell (p := ⟨rb, 1, none⟩) hb _).setCell (p := ⟨rb, 2, none⟩) hb _).setCell (p := ⟨rb, 3, none⟩) hb _).setCell (p := ⟨rb, 4, none⟩) hb _).setCell (p := ⟨rb, 5, none⟩) hb _).setCell (p := ⟨rb, 6, none⟩) hb _
theorem row7 {w : World} {rb : Nat} {v : Value} {l : List UInt8} (h : Row w (rb + 1) v l) (b0 b1 b2 b3 b4 b5 b6 : Value) :
    Row (((((((w.setCell ⟨rb, 0, none⟩ b0).setCell ⟨rb, 1, none⟩ b1).setCell ⟨rb, 2, none⟩ b2).setCell ⟨rb, 3, none⟩ b3).setCell ⟨rb, 4, none⟩ b4).setCell ⟨rb, 5, none⟩ b5).setCell ⟨rb, 6, none⟩ b6) (rb + 1) v l :=
  row_set (row_set (row_set (row_set (row_set (row_set (row_set h 0 b0) 1 b1) 2 b2) 3 b3) 4 b4) 5 b5) 6 b6
theorem infoRs : (Tryz.prog.info? 30).map (·.size) = some 7 := by kernel_rfl
theorem results_rs {fn : Func} {p : Tmp} (h : fn.results = #[.cell p 30]) {tmps : Array Value} {w : World} {b : Nat} {x0 x1 x2 x3 x4 x5 x6 : Value} (hp : tmps.getD p undef = .pointer (some ⟨b, 0, none⟩)) (hg : w.heap[b]? = some (.cells #[x0, x1, x2, x3, x4, x5, x6] 30)) : (results fn tmps).run Tryz.prog w = .ok (.agg #[x0, x1, x2, x3, x4, x5, x6]) w :=
  results_cell_row h _ _ b 30 #[x0, x1, x2, x3, x4, x5, x6] (0, 0) _ hp hg Tryz.underlying30 rfl infoRs
def res0 : Array Value := #[.slice none 0 0, .slice none 0 0, .int .i64 0, .slice none 0 0, .int .i64 0, .int .i64 0, .int .i64 0]
/-- A result in its box. -/
def BoxN (w : World) (b : Nat) (r : Res) : Prop :=
  ∃ ov ev n1 n2 n3, w.heap[b]? = some (.cells #[ov, ev, .int .i64 (r.st : Int), .slice none 0 0, .int .i64 n1, .int .i64 n2, .int .i64 n3] 30) ∧ Row w 0 ov r.out ∧ Row w 0 ev r.err
theorem BoxN.below {w w' : World} {b : Nat} {r : Res} (h : BoxN w b r) (hB : Below w.heap.size w w') : BoxN w' b r := by
  obtain ⟨ov, ev, n1, n2, n3, h1, h2, h3⟩ := h
  exact ⟨ov, ev, n1, n2, n3, (hB.block b (h_lt h1)).trans h1, row_turn h2 hB, row_turn h3 hB⟩
theorem BoxN.new {w : World} {B : Nat} {ov ev : Value} {n1 n2 n3 : Int} {r : Res} (h2 : Row w B ov r.out) (h3 : Row w B ev r.err) : BoxN (w.alloc (.cells #[ov, ev, .int .i64 (r.st : Int), .slice none 0 0, .int .i64 n1, .int .i64 n2, .int .i64 n3] 30)) w.heap.size r :=
  ⟨ov, ev, n1, n2, n3, al_new _ _, row_turn (row_low h2 (Nat.zero_le _)) ((Below.refl _ w).alloc (Nat.le_refl _) _), row_turn (row_low h3 (Nat.zero_le _)) ((Below.refl _ w).alloc (Nat.le_refl _) _)⟩
/-- What is read of a box. -/
theorem BoxN.out {w : World} {b : Nat} {r : Res} (h : BoxN w b r) : ∃ a c, w.cell? ⟨b, 0, none⟩ = some (.slice a r.out.length c) ∧ ∀ u : World, Below w.heap.size w u → (convert 27 9 (.slice a r.out.length c)).run Tryz.prog u = .ok (.string (bz r.out)) u := by
  obtain ⟨ov, ev, n1, n2, n3, h1, h2, h3⟩ := h
  obtain ⟨a, c, rfl⟩ := row_shape h2
  exact ⟨a, c, h_cell h1 0 rfl, fun u hu => str_row (row_turn h2 hu)⟩
theorem BoxN.err {w : World} {b : Nat} {r : Res} (h : BoxN w b r) : ∃ a c, w.cell? ⟨b, 1, none⟩ = some (.slice a r.err.length c) ∧ ∀ u : World, Below w.heap.size w u → (convert 27 9 (.slice a r.err.length c)).run Tryz.prog u = .ok (.string (bz r.err)) u := by
  obtain ⟨ov, ev, n1, n2, n3, h1, h2, h3⟩ := h
  obtain ⟨a, c, rfl⟩ := row_shape h3
  exact ⟨a, c, h_cell h1 1 rfl, fun u hu => str_row (row_turn h3 hu)⟩
theorem BoxN.st {w : World} {b : Nat} {r : Res} (h : BoxN w b r) : w.cell? ⟨b, 2, none⟩ = some (.int .i64 (r.st : Int)) := by
  obtain ⟨ov, ev, n1, n2, n3, h1, h2, h3⟩ := h
  exact h_cell h1 2 rfl
theorem BoxN.lt {w : World} {b : Nat} {r : Res} (h : BoxN w b r) : b < w.heap.size := by
  obtain ⟨ov, ev, n1, n2, n3, h1, h2, h3⟩ := h
  exact h_lt h1
/-- What a call leaves: the result, which is laid into a box at once. -/
def StepN (w : World) (r : Res) (e : Ending) (w' : World) : Prop :=
  ∃ oa oc ea ec n1 n2 n3, e = .returned (.agg #[.slice oa r.out.length oc, .slice ea r.err.length ec, .int .i64 (r.st : Int), .slice none 0 0, .int .i64 n1, .int .i64 n2, .int .i64 n3]) ∧
    BoxN (w'.alloc (.cells #[.slice oa r.out.length oc, .slice ea r.err.length ec, .int .i64 (r.st : Int), .slice none 0 0, .int .i64 n1, .int .i64 n2, .int .i64 n3] 30)) w'.heap.size r ∧
    Below w.heap.size w (w'.alloc (.cells #[.slice oa r.out.length oc, .slice ea r.err.length ec, .int .i64 (r.st : Int), .slice none 0 0, .int .i64 n1, .int .i64 n2, .int .i64 n3] 30)) ∧ Below w.heap.size w w'
theorem step_of {w u : World} {r : Res} {e : Ending} {w' : World} (hB : Below w.heap.size w u) (h : LawN u r e w') : StepN w r e w' := by
  obtain ⟨ov, ev, n1, n2, n3, rfl, hO, hE, hB2⟩ := h
  obtain ⟨oa, oc, rfl⟩ := row_shape hO
  obtain ⟨ea, ec, rfl⟩ := row_shape hE
  have hB3 := hB.trans (hB2.mono hB.size)
  exact ⟨oa, oc, ea, ec, n1, n2, n3, rfl, BoxN.new hO hE, hB3.alloc hB3.size _, hB3⟩
theorem heap_size_al (w : World) (o : Obj) : (w.alloc o).heap.size = w.heap.size + 1 := by simp
theorem field_st (x0 x1 x2 x3 x4 x5 x6 : Value) (w : World) : (Instr.field 30 (.agg #[x0, x1, x2, x3, x4, x5, x6]) 2).run Tryz.prog w = .ok x2 w := by kernel_rfl
theorem own_lits (w : World) (ss : List ByteArray) (n : Nat) (hn : ss.length = n) (hl : n ≤ 1000) : (w.alloc (.cells (ss.map Value.string).toArray 9)).ownsRow w.heap.size 9 1 (.slice (some ⟨w.heap.size, 0, none⟩) n n) n (ss.map .string) := by
  subst hn
  refine ⟨by simp, .inr ⟨w.heap.size, ss.length, (ss.map Value.string).toArray, rfl, Nat.le_refl _, by show (w.heap.push _)[w.heap.size]? = _; simp, Nat.le_refl _, by unfold maxLen; omega, by simp, by simp [List.take_of_length_le]⟩⟩
end Go.Proofs.YteimilnecahifaaGreatDoor.Nm
