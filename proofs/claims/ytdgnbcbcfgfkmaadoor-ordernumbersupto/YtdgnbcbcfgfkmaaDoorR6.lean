/- How keys are compared, as a function value: by the landed code. -/
import Derived.Test.YtdgnbcbcfgfkmaaDoorR4b
import Derived.Test.YtdgnbcbcfgfkmaaDoorR5b
namespace Go.Proofs.YtdgnbcbcfgfkmaaDoor
open Go.RowKit Go.Shelf

/-- A function value that compares bytes. -/
structure FnC (v : Value) (C : List UInt8 → List UInt8 → Int) : Prop where
  ex : ∃ (f : FuncId) (first : Array Value), v = .func (.func f) first #[] ∧ (∀ (z : Array Value) (u : World), (callFunc f z).run Tryd.prog u = .ok (.enter f z) u) ∧
    ∀ (va vb : Value) (a b : List UInt8) (w : World), ByAt w va a → ByAt w vb b →
      Calls Tryd.prog f (first ++ #[va, vb]) w fun e w' => e = .returned (.int .i64 (C a b)) ∧ Below w.heap.size w w'
theorem fnC_bytes : FnC (.func (.func 34) #[] #[]) cmpL :=
  ⟨⟨_, _, rfl, enters_of Tryd.func34 (by kernel_rfl) rfl, fun va vb a b w ha hb => (bytesCompare_c va vb a b w ha hb).mono fun e w' ⟨h1, h2⟩ => ⟨h1, h2 ▸ Below.refl _ _⟩⟩⟩
theorem fnC_nums : FnC (.func (.func 36) #[] #[]) numsS :=
  ⟨⟨_, _, rfl, enters_of Tryd.func36 (by kernel_rfl) rfl, fun va vb a b w ha hb => compareNumbers_c va vb a b w ha hb⟩⟩
theorem fnC_kept (x : Nat) (hx : x < 64) : FnC (.func (.func 37) #[.int .u64 (x : Int)] #[]) (fun a b => cmpL (keptS (fgOf x x) a) (keptS (fgOf x x) b)) :=
  ⟨⟨_, _, rfl, enters_of Tryd.func37 (by kernel_rfl) rfl, fun va vb a b w ha hb => compareBytes_c x hx va vb a b w ha hb⟩⟩
theorem otherWay_c {f : FuncId} {first : Array Value} {C : List UInt8 → List UInt8 → Int} (hcf : ∀ (z : Array Value) (u : World), (callFunc f z).run Tryd.prog u = .ok (.enter f z) u)
    (hc : ∀ (va vb : Value) (a b : List UInt8) (w : World), ByAt w va a → ByAt w vb b → Calls Tryd.prog f (first ++ #[va, vb]) w fun e w' => e = .returned (.int .i64 (C a b)) ∧ Below w.heap.size w w')
    (va vb : Value) (a b : List UInt8) (w : World) (ha : ByAt w va a) (hb : ByAt w vb b) :
    Calls Tryd.prog 38 #[.func (.func f) first #[], va, vb] w fun e w' => e = .returned (.int .i64 (C b a)) ∧ Below w.heap.size w w' := by
  have h := hc vb va b a w hb ha
  obtain ⟨xa, ca, rfl⟩ := ha.shape
  obtain ⟨xb, cb, rfl⟩ := hb.shape
  clear ha hb hc
  go_enter Tryd.func38, Tryd.ntmps38
  go_wp2_with fail
  refine h.mono ?_
  rintro e w1 ⟨rfl, hb1⟩
  go_wp2_with fail
  go_ret
  exact ⟨rfl, hb1⟩
theorem fnC_other {v : Value} {C : List UInt8 → List UInt8 → Int} (h : FnC v C) : FnC (.func (.func 38) #[v] #[]) (fun a b => C b a) := by
  obtain ⟨f, first, rfl, hcf, hc⟩ := h.ex
  exact ⟨⟨_, _, rfl, enters_of Tryd.func38 (by kernel_rfl) rfl, fun va vb a b w ha hb => otherWay_c hcf hc va vb a b w ha hb⟩⟩

/-- How the flags let keys be compared. -/
def cmpF (x : Nat) (a b : List UInt8) : Int := flip1 (x.testBit 5) (if x.testBit 4 then numsS a b else cmpL (keptS (fgOf x x) a) (keptS (fgOf x x) b))
theorem kept_all (x : Nat) (h : (x.testBit 1 || x.testBit 2 || x.testBit 3) = false) (a : List UInt8) : keptS (fgOf x x) a = a := by
  simp only [Bool.or_eq_false_iff] at h
  unfold keptS
  have e1 : ∀ c, counts1 (fgOf x x) c = true := fun c => by unfold counts1; rw [fgOf_d, fgOf_i, h.1.1, h.2]; simp
  have e2 : ∀ c, upS (fgOf x x) c = c := fun c => by unfold upS; rw [fgOf_f, h.1.2]; simp
  rw [List.filter_eq_self.2 (fun c _ => e1 c), show upS (fgOf x x) = id from funext e2, List.map_id]
theorem fnC_eq {v : Value} {C D : List UInt8 → List UInt8 → Int} (h : FnC v C) (e : ∀ a b, D a b = C a b) : FnC v D := by
  have : D = C := by funext a b; exact e a b
  rw [this]; exact h
theorem cmpF_n (x : Nat) (h4 : x.testBit 4 = true) (h5 : x.testBit 5 = false) (a b : List UInt8) : cmpF x a b = numsS a b := by unfold cmpF; rw [h4, h5]; rfl
theorem cmpF_nr (x : Nat) (h4 : x.testBit 4 = true) (h5 : x.testBit 5 = true) (a b : List UInt8) : cmpF x a b = numsS b a := by unfold cmpF; rw [h4, h5]; exact (cm_nums.anti b a).symm
theorem cmpF_k (x : Nat) (h4 : x.testBit 4 = false) (h5 : x.testBit 5 = false) (a b : List UInt8) : cmpF x a b = cmpL (keptS (fgOf x x) a) (keptS (fgOf x x) b) := by unfold cmpF; rw [h4, h5]; rfl
theorem cmpF_kr (x : Nat) (h4 : x.testBit 4 = false) (h5 : x.testBit 5 = true) (a b : List UInt8) : cmpF x a b = cmpL (keptS (fgOf x x) b) (keptS (fgOf x x) a) := by unfold cmpF; rw [h4, h5]; exact (cmpL_anti _ _).symm
structure CmpFacts (B4 B5 B : Bool) (xv : Value) (C : List UInt8 → List UInt8 → Int) : Prop where
  n : B4 = true → B5 = false → FnC (.func (.func 36) #[] #[]) C
  nr : B4 = true → B5 = true → FnC (.func (.func 38) #[.func (.func 36) #[] #[]] #[]) C
  k : B4 = false → B5 = false → FnC (.func (.func 37) #[xv] #[]) C
  kr : B4 = false → B5 = true → FnC (.func (.func 38) #[.func (.func 37) #[xv] #[]] #[]) C
  b : B4 = false → B5 = false → B = false → FnC (.func (.func 34) #[] #[]) C
  br : B4 = false → B5 = true → B = false → FnC (.func (.func 38) #[.func (.func 34) #[] #[]] #[]) C
theorem cmpFacts (x : Nat) (hx : x < 64) : CmpFacts (x.testBit 4) (x.testBit 5) (x.testBit 1 || x.testBit 2 || x.testBit 3) (.int .u64 (x : Int)) (cmpF x) where
  n h4 h5 := fnC_eq fnC_nums (cmpF_n x h4 h5)
  nr h4 h5 := fnC_eq (fnC_other fnC_nums) (cmpF_nr x h4 h5)
  k h4 h5 := fnC_eq (fnC_kept x hx) (cmpF_k x h4 h5)
  kr h4 h5 := fnC_eq (fnC_other (fnC_kept x hx)) (cmpF_kr x h4 h5)
  b h4 h5 h := fnC_eq fnC_bytes (fun a b => by rw [cmpF_k x h4 h5, kept_all x h, kept_all x h])
  br h4 h5 h := fnC_eq (fnC_other fnC_bytes) (fun a b => by rw [cmpF_kr x h4 h5, kept_all x h, kept_all x h])
set_option maxHeartbeats 1000000 in
set_option maxRecDepth 100000 in
theorem comparing_c (x : Nat) (hx : x < 64) (w : World) :
    Calls Tryd.prog 22 #[.int .u64 (x : Int)] w fun e w' => (∃ v, e = .returned v ∧ FnC v (cmpF x)) ∧ w' = w := by
  have hmf : ∀ (fn : Fn) (first cap : Array Value) (w : World), (Instr.makeFunc fn first cap).run Tryd.prog w = .ok (.func fn first cap) w := fun _ _ _ _ => rfl
  have h1 := has_c x 16 w hx (by omega)
  have h2 := has_c x 14 w hx (by omega)
  have h3 := has_c x 32 w hx (by omega)
  rw [bit_4 x hx] at h1
  rw [bit_123 x hx] at h2
  rw [bit_5 x hx] at h3
  have HF := Lib.hid (cmpFacts x hx)
  generalize (x.testBit 1 || x.testBit 2 || x.testBit 3) = B at *
  generalize x.testBit 4 = B4 at *
  generalize x.testBit 5 = B5 at *
  generalize cmpF x = C at *
  clear hx
  cases B4
  · cases B5 <;> cases B
    all_goals
      go_enter Tryd.func22, Tryd.ntmps22
      go_wp2_with (first
        | (go_at_call 35; refine h1.mono ?_; rintro e w' ⟨rfl, hw'⟩; rw [hw']; clear hw' h1)
        | (go_at_call 35; refine h2.mono ?_; rintro e w' ⟨rfl, hw'⟩; rw [hw']; clear hw' h2)
        | (go_at_call 35; refine h3.mono ?_; rintro e w' ⟨rfl, hw'⟩; rw [hw']; clear hw' h3))
      go_ret
      refine ⟨⟨_, rfl, ?_⟩, rfl⟩
      first
        | exact HF.out.b rfl rfl rfl
        | exact HF.out.br rfl rfl rfl
        | exact HF.out.k rfl rfl
        | exact HF.out.kr rfl rfl
  · clear h2
    cases B5
    all_goals
      go_enter Tryd.func22, Tryd.ntmps22
      go_wp2_with (first
        | (go_at_call 35; refine h1.mono ?_; rintro e w' ⟨rfl, hw'⟩; rw [hw']; clear hw' h1)
        | (go_at_call 35; refine h3.mono ?_; rintro e w' ⟨rfl, hw'⟩; rw [hw']; clear hw' h3))
      go_ret
      refine ⟨⟨_, rfl, ?_⟩, rfl⟩
      first
        | exact HF.out.n rfl rfl
        | exact HF.out.nr rfl rfl
end Go.Proofs.YtdgnbcbcfgfkmaaDoor
