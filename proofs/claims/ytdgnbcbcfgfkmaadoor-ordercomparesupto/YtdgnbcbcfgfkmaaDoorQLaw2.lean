/- Two lines by options; the chapter's examples. -/
import Derived.Lib.ConvBytes
import Derived.Test.YtdgnbcbcfgfkmaaDoorQLaw1
namespace Go.Proofs.YtdgnbcbcfgfkmaaDoor
open Go.RowKit

theorem conv_sb (s : ByteArray) (w : World) : (convert 9 23 (.string s)).run Tryd.prog w = .ok (.slice (some ⟨w.heap.size, 0, none⟩) s.size (grownCap w s.size 0 5)) (Lib.bytesWorld w 5 s) :=
  Lib.run_convert_string_bytes w 9 23 5 s Tryd.underlying9 Tryd.underlying23 Tryd.underlying5
theorem by_conv (s : ByteArray) (w : World) (hs : s.size ≤ 4194304) : ByAt (Lib.bytesWorld w 5 s) (.slice (some ⟨w.heap.size, 0, none⟩) s.size (grownCap w s.size 0 5)) s.data.toList := by
  refine .inr ⟨w.heap.size, 0, _, rfl, ⟨grownCap_ge w s.size 0 _, ?_⟩, by rw [Lib.bytesWorld_size]; omega, fun j hj => ?_⟩
  · have := grownCap_le_maxLen w s.size 0 5 (by unfold maxLen; omega)
    unfold maxLen at this; exact this
  · rw [Nat.zero_add, Lib.bytesWorld_cell w 5 s j hj]; rfl
theorem below_bw (B : Nat) (w : World) (e : TypeId) (s : ByteArray) (h : B ≤ w.heap.size) : Below B w (Lib.bytesWorld w e s) :=
  ⟨rfl, rfl, rfl, by rw [Lib.bytesWorld_size]; omega, fun k hk => Lib.bytesWorld_at_old w e s k (by omega)⟩
def cmp2 (l : Opts) (a b : List UInt8) : Int := match readS l with | none => 2 | some o => o.cmp a b

set_option maxHeartbeats 2000000 in
set_option maxRecDepth 100000 in
theorem compares_c {OrdAt : World → Nat → Od → Prop} (S : Says OrdAt) (v : Value) (l : Opts) (a b : ByteArray) (w : World) (hl : l.length ≤ 2097152) (hq : ∀ q ∈ l, q.2.size ≤ 2097152) (ha : a.size ≤ 2097152) (hb : b.size ≤ 2097152) (hO : OpAt w v l) :
    Calls Tryd.prog 18 #[v, .string a, .string b] w fun e w' => e = .returned (.int .i64 (cmp2 l a.data.toList b.data.toList)) ∧ Below w.heap.size w w' := by
  have hr := S.read v l w hl hq hO
  have HS := Lib.hid S
  clear hO S hq
  unfold cmp2
  cases hrd : readS l with
  | none =>
    rw [hrd] at hr
    go_enter Tryd.func18, Tryd.ntmps18
    go_wp2_with (go_at_call 8; refine hr.mono ?_; rintro e w1 ⟨rfl, hb1⟩)
    go_ret
    exact ⟨rfl, hb1⟩
  | some o =>
    rw [hrd] at hr
    have hcv := conv_sb
    clear hrd
    go_enter Tryd.func18, Tryd.ntmps18
    go_wp2_with (go_at_call 8; refine hr.mono ?_; rintro e w1 ⟨⟨p, rfl, hO1⟩, hb1⟩; have HO1 := Lib.hid (And.intro hO1 hb1); clear hO1 hb1)
    have e1 := below_bw w1.heap.size w1 5 a (Nat.le_refl _)
    have e2 := below_bw (Lib.bytesWorld w1 5 a).heap.size (Lib.bytesWorld w1 5 a) 5 b (Nat.le_refl _)
    refine (HS.out.cmp p o _ _ a.data.toList b.data.toList _ (HS.out.keep _ _ _ _ (HS.out.keep _ _ _ _ HO1.out.1 e1) e2) ha hb ((by_conv a w1 (by omega)).below e2) (by_conv b _ (by omega))).mono ?_
    rintro e w2 ⟨n, rfl, hn, hs, hb2⟩
    have HB : Hid (Below w.heap.size w w2) := HO1.out.2.trans (((e1.trans (e2.mono e1.size)).trans (hb2.mono (Nat.le_trans e1.size e2.size))).mono HO1.out.2.size)
    have hsg := sign_c n w2
    rw [hs] at hsg
    clear e1 e2 hb2
    go_wp2_with (go_at_call 10; refine hsg.mono ?_; rintro e w' ⟨rfl, hw'⟩; rw [hw']; clear hw')
    go_ret
    exact ⟨rfl, HB.out⟩
end Go.Proofs.YtdgnbcbcfgfkmaaDoor
