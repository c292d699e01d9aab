/- What the builder makes: a byte, the beginning, the end, one of two ways, again and again. -/
import Derived.Test.YtlekfdkahlobiaaGreatMNfa
import Derived.Test.YtlekfdkahlobiaaGreatHBuild
namespace Go.Proofs.YtlekfdkahlobiaaGreat.Re

/-- From a state a relation leads to another one. -/
structure Leads (b : List UInt8) (r : Rl) (n : Nat) (B : Bst) (base start : Nat) : Prop where
  tow : ∀ F, ExtF n B F → ∀ i k j, i ≤ b.length → r i k → (∃ m, AccN b F m base k j) → ∃ m, AccN b F m start i j
  fr : ∀ F, ExtF n B F → ∀ m i j, i ≤ b.length → AccN b F m start i j → ∃ k m', m' ≤ m ∧ r i k ∧ AccN b F m' base k j
theorem Does.leads {b : List UInt8} {r : Rl} {B B' : Bst} (h : Does b r B B') : Leads b r B.sts.length B' B.first B'.first := ⟨h.tow, h.from'⟩
/-- All of one builder's work is in another one's. -/
structure Grw (B B' : Bst) : Prop where
  ge : B.sts.length ≤ B'.sts.length
  sets : ∀ (q : Nat) (p : UInt8 → Bool), B.sets[q]? = some p → B'.sets[q]? = some p
  old : ∀ (q : Nat) (s : Stt), B.sts[q]? = some s → B'.sts[q]? = some s
theorem Grw.trans {A B C : Bst} (h : Grw A B) (k : Grw B C) : Grw A C := ⟨Nat.le_trans h.ge k.ge, fun q p x => k.sets q p (h.sets q p x), fun q s x => k.old q s (h.old q s x)⟩
theorem Does.grw {b : List UInt8} {r : Rl} {B B' : Bst} (h : Does b r B B') : Grw B B' := ⟨h.ge, h.sets, h.old⟩
theorem put_grw (B : Bst) (s : Stt) : Grw B (B.put s) := ⟨by simp [Bst.put], fun _ _ h => h, fun _ _ h => put_old B s h⟩
theorem ExtF.grw {n : Nat} {B B' F : Bst} (h : ExtF n B' F) (g : Grw B B') : ExtF n B F := h.old g.old g.sets
theorem Leads.mono {b : List UInt8} {r : Rl} {n n' : Nat} {B B' : Bst} {base start : Nat} (h : Leads b r n B base start) (hn : n' ≤ n) (g : Grw B B') : Leads b r n' B' base start :=
  ⟨fun F hx => h.tow F ((hx.grw g).weak hn), fun F hx => h.fr F ((hx.grw g).weak hn)⟩
theorem Leads.rel {b : List UInt8} {r r' : Rl} {n : Nat} {B : Bst} {base start : Nat} (h : Leads b r n B base start) (e : ∀ i j, r i j ↔ r' i j) : Leads b r' n B base start :=
  ⟨fun F hx i k j hi hr => h.tow F hx i k j hi ((e i k).2 hr), fun F hx m i j hi ha => by
    obtain ⟨k, m', h1, h2, h3⟩ := h.fr F hx m i j hi ha
    exact ⟨k, m', h1, (e i k).1 h2, h3⟩⟩
theorem Does.rel {b : List UInt8} {r r' : Rl} {B B' : Bst} (h : Does b r B B') (e : ∀ i j, r i j ↔ r' i j) : Does b r' B B' :=
  have l := h.leads.rel e
  ⟨h.ge, h.sets, h.old, h.first, l.tow, l.fr⟩
theorem Leads.refl (b : List UInt8) (n : Nat) (B : Bst) (s : Nat) : Leads b (fun i j => i = j) n B s s := ⟨fun _ _ i k j _ e h => by cases e; exact h, fun _ _ m i j _ h => ⟨i, m, Nat.le_refl _, rfl, h⟩⟩
theorem Leads.seq {b : List UInt8} {r r' : Rl} {n : Nat} {B : Bst} {x y z : Nat} (hr : Fwd b.length r') (h1 : Leads b r n B x y) (h2 : Leads b r' n B y z) : Leads b (fun i j => ∃ k, r' i k ∧ r k j) n B x z := by
  refine ⟨?_, ?_⟩
  · rintro F hx i k j hi ⟨m, h3, h4⟩ hn
    exact h2.tow F hx i m j hi h3 (h1.tow F hx m k j (hr i m h3 hi).2 h4 hn)
  · intro F hx n i j hi h
    obtain ⟨m, n1, hn1, h3, h4⟩ := h2.fr F hx n i j hi h
    obtain ⟨k, n2, hn2, h5, h6⟩ := h1.fr F hx n1 m j (hr i m h3 hi).2 h4
    exact ⟨k, n2, by omega, ⟨m, h3, h5⟩, h6⟩
/-- One of two ways. -/
theorem Leads.either {b : List UInt8} {r r' : Rl} {n : Nat} {B : Bst} {base s s' : Nat} (hn : n ≤ B.sts.length) (h0 : 0 < B.sts.length) (h1 : Leads b r n B base s) (h2 : Leads b r' n B base s') : Leads b (fun i j => r i j ∨ r' i j) n (B.put ⟨4, 0, s, s'⟩) base B.sts.length := by
  have g := put_grw B ⟨4, 0, s, s'⟩
  refine ⟨?_, ?_⟩
  · intro F hx i k j hi hr hb
    have hq := hx.1 _ _ hn (put_get B ⟨4, 0, s, s'⟩)
    rcases hr with hr | hr
    · obtain ⟨m, hm⟩ := h1.tow F (hx.grw g) i k j hi hr hb
      exact ⟨m + 1, s, i, ⟨_, hq, .inl ⟨.inr (.inr ⟨rfl, .inl rfl⟩), rfl⟩⟩, hm⟩
    · obtain ⟨m, hm⟩ := h2.tow F (hx.grw g) i k j hi hr hb
      exact ⟨m + 1, s', i, ⟨_, hq, .inl ⟨.inr (.inr ⟨rfl, .inr rfl⟩), rfl⟩⟩, hm⟩
  · intro F hx m i j hi h
    have hq := hx.1 _ _ hn (put_get B ⟨4, 0, s, s'⟩)
    cases m with
    | zero =>
      have e : B.sts.length = 0 := h.1
      omega
    | succ m =>
      obtain ⟨q, k, ⟨t, ht, hs⟩, h4⟩ := h
      rw [hq] at ht
      cases ht
      rcases hs with ⟨he, rfl⟩ | ⟨he, _⟩
      · rcases he with ⟨e, _⟩ | ⟨e, _⟩ | ⟨_, e | e⟩
        · cases e
        · cases e
        · subst e
          obtain ⟨x, m', h5, h6, h7⟩ := h1.fr F (hx.grw g) m _ j hi h4
          exact ⟨x, m', by omega, .inl h6, h7⟩
        · subst e
          obtain ⟨x, m', h5, h6, h7⟩ := h2.fr F (hx.grw g) m _ j hi h4
          exact ⟨x, m', by omega, .inr h6, h7⟩
      · cases he
/-- Any number of times. -/
def starR (r : Rl) : Rl := fun i j => ∃ c, iterR r c i j
theorem iter_app {r : Rl} : ∀ {a c i j : Nat}, iterR r (a + c) i j ↔ ∃ k, iterR r a i k ∧ iterR r c k j
  | 0, c, i, j => by rw [Nat.zero_add]; exact ⟨fun h => ⟨i, rfl, h⟩, fun ⟨k, e, h⟩ => by cases e; exact h⟩
  | a + 1, c, i, j => by
    rw [show a + 1 + c = (a + c) + 1 by omega]
    constructor
    · rintro ⟨k, h1, h2⟩
      obtain ⟨m, h3, h4⟩ := iter_app.1 h2
      exact ⟨m, ⟨k, h1, h3⟩, h4⟩
    · rintro ⟨m, ⟨k, h1, h2⟩, h3⟩
      exact ⟨k, h1, iter_app.2 ⟨m, h2, h3⟩⟩
/-- A state that leads to something and back, or on. -/
theorem loop_star {b : List UInt8} {r : Rl} {n : Nat} {B B3 : Bst} {base L s : Nat} (hr : Fwd b.length r) (hL : n ≤ L) (h0 : 0 < L) (hB : ∀ F, ExtF n B3 F → ExtF (L + 1) B F) (hk : Leads b r (L + 1) B L s) (hs : B3.sts[L]? = some ⟨4, 0, s, base⟩) : Leads b (starR r) n B3 base L := by
  refine ⟨?_, ?_⟩
  · rintro F hx i k j hi ⟨c, hc⟩ hb
    have hq := hx.1 _ _ hL hs
    induction c generalizing i with
    | zero =>
      cases hc
      obtain ⟨m, hm⟩ := hb
      exact ⟨m + 1, base, _, ⟨_, hq, .inl ⟨.inr (.inr ⟨rfl, .inr rfl⟩), rfl⟩⟩, hm⟩
    | succ c ih =>
      obtain ⟨x, h1, h2⟩ := hc
      obtain ⟨m, hm⟩ := hk.tow F (hB F hx) i x j hi h1 (ih x (hr i x h1 hi).2 h2)
      exact ⟨m + 1, s, i, ⟨_, hq, .inl ⟨.inr (.inr ⟨rfl, .inl rfl⟩), rfl⟩⟩, hm⟩
  · intro F hx m
    have hq := hx.1 _ _ hL hs
    induction m using Nat.strongRecOn with
    | ind m ih =>
      intro i j hi h
      cases m with
      | zero =>
        have e : L = 0 := h.1
        omega
      | succ m =>
        obtain ⟨q, k, ⟨t, ht, hst⟩, h4⟩ := h
        rw [hq] at ht
        cases ht
        rcases hst with ⟨he, rfl⟩ | ⟨he, _⟩
        · rcases he with ⟨e, _⟩ | ⟨e, _⟩ | ⟨_, e | e⟩
          · cases e
          · cases e
          · subst e
            obtain ⟨x, m', h5, h6, h7⟩ := hk.fr F (hB F hx) m _ j hi h4
            obtain ⟨y, m2, h8, ⟨c, h9⟩, h10⟩ := ih m' (by omega) x j (hr _ x h6 hi).2 h7
            exact ⟨y, m2, by omega, ⟨c + 1, x, h6, h9⟩, h10⟩
          · subst e
            exact ⟨_, m, by omega, ⟨0, rfl⟩, h4⟩
        · cases he
/-- A byte of a set. -/
theorem D_set {b : List UInt8} {B : Bst} {p : UInt8 → Bool} {idx : Nat} (h0 : 0 < B.sts.length) (hp : B.sets[idx]? = some p) : Does b (fun i j => (∃ c, b[i]? = some c ∧ p c = true) ∧ j = i + 1) B (B.put ⟨1, idx, B.first, 0⟩) := by
  refine Does.put B _ (fun F hF hs i k _ hr => ?_) (fun F hF hs i q k h => ?_) h0
  · obtain ⟨⟨c, h1, h2⟩, rfl⟩ := hr
    exact ⟨_, hF, .inr ⟨rfl, rfl, rfl, c, p, h1, hs _ _ hp, h2⟩⟩
  · obtain ⟨t, ht, h⟩ := h
    rw [hF] at ht
    cases ht
    rcases h with ⟨he, _⟩ | ⟨_, rfl, rfl, c, p', h1, h2, h3⟩
    · rcases he with ⟨e, _⟩ | ⟨e, _⟩ | ⟨e, _⟩ <;> cases e
    · rw [hs _ _ hp] at h2
      cases h2
      exact ⟨rfl, ⟨c, h1, h3⟩, rfl⟩
theorem D_begin {b : List UInt8} {B : Bst} (h0 : 0 < B.sts.length) : Does b (fun i j => i = 0 ∧ j = 0) B (B.put ⟨2, 0, B.first, 0⟩) := by
  refine Does.put B _ (fun F hF hs i k _ hr => ?_) (fun F hF hs i q k h => ?_) h0
  · obtain ⟨rfl, rfl⟩ := hr
    exact ⟨_, hF, .inl ⟨.inl ⟨rfl, rfl, rfl⟩, rfl⟩⟩
  · obtain ⟨t, ht, h⟩ := h
    rw [hF] at ht
    cases ht
    rcases h with ⟨he, rfl⟩ | ⟨e, _⟩
    · rcases he with ⟨_, rfl, rfl⟩ | ⟨e, _⟩ | ⟨e, _⟩
      · exact ⟨rfl, rfl, rfl⟩
      · cases e
      · cases e
    · cases e
theorem D_end {b : List UInt8} {B : Bst} (h0 : 0 < B.sts.length) : Does b (fun i j => i = b.length ∧ j = b.length) B (B.put ⟨3, 0, B.first, 0⟩) := by
  refine Does.put B _ (fun F hF hs i k _ hr => ?_) (fun F hF hs i q k h => ?_) h0
  · obtain ⟨rfl, rfl⟩ := hr
    exact ⟨_, hF, .inl ⟨.inr (.inl ⟨rfl, rfl, rfl⟩), rfl⟩⟩
  · obtain ⟨t, ht, h⟩ := h
    rw [hF] at ht
    cases ht
    rcases h with ⟨he, rfl⟩ | ⟨e, _⟩
    · rcases he with ⟨e, _⟩ | ⟨_, rfl, rfl⟩ | ⟨e, _⟩
      · cases e
      · exact ⟨rfl, rfl, rfl⟩
      · cases e
    · cases e
/-- A set more. -/
def Bst.addSet (B : Bst) (p : UInt8 → Bool) : Bst := ⟨B.sts, B.sets ++ [p], B.first⟩
theorem addSet_grw (B : Bst) (p : UInt8 → Bool) : Grw B (B.addSet p) := ⟨Nat.le_refl _, fun q x h => by
  have := (List.getElem?_eq_some_iff.1 h).1
  show (B.sets ++ [p])[q]? = some x
  rw [List.getElem?_append_left this, h], fun _ _ h => h⟩
theorem D_addSet {b : List UInt8} {r : Rl} {B B' : Bst} {p : UInt8 → Bool} (h : Does b r (B.addSet p) B') : Does b r B B' :=
  have g := addSet_grw B p
  ⟨h.ge, fun q x hq => h.sets q x (g.sets q x hq), h.old, h.first, h.tow, h.from'⟩
end Go.Proofs.YtlekfdkahlobiaaGreat.Re

namespace Go.Proofs.YtlekfdkahlobiaaGreat.Re
open Go.Proofs.YtlekfdkahlobiaaGreat.Tr

def Nd.ord : Nd → Bool
  | ⟨k, _, m, n, l⟩ => ((decide (k ≠ 6) || decide (n < 0 ∨ m ≤ n)) && (decide (k ≠ 5) || !l.isEmpty)) && ords l
  where ords : List Nd → Bool
  | [] => true
  | x :: l => x.ord && ords l
theorem ords_iff : ∀ {l : List Nd}, Nd.ord.ords l = true ↔ ∀ x ∈ l, x.ord = true
  | [] => by simp [Nd.ord.ords]
  | x :: l => by rw [Nd.ord.ords, Bool.and_eq_true, ords_iff (l := l)]; simp
theorem ord_join {k : Nat} (hk : k = 4 ∨ k = 5) : ∀ {l : List Nd}, (∀ x ∈ l, x.ord = true) → (joinN k l).ord = true
  | [], _ => rfl
  | [x], h => h x (by simp)
  | x :: y :: l, h => by
    show Nd.ord ⟨k, noB, 0, 0, x :: y :: l⟩ = true
    rw [Nd.ord, ords_iff.2 h]
    rcases hk with rfl | rfl <;> rfl
theorem ord_rep {m n : Int} {x : Nd} (h : n < 0 ∨ m ≤ n) (hx : x.ord = true) : (repN m n x).ord = true := by
  show Nd.ord ⟨6, noB, m, n, [x]⟩ = true
  rw [Nd.ord, Nd.ord.ords, Nd.ord.ords, hx, decide_eq_true h]
  rfl
def TmOrd (q : Int × Int × List UInt8) : Prop := q.2.1 < 0 ∨ q.1 ≤ q.2.1
theorem braceS_ord {shut s : List UInt8} {q : Int × Int × List UInt8} (h : braceS shut s = some q) : TmOrd q := by
  unfold braceS at h
  simp only at h
  split at h
  · cases h
  split at h
  · unfold brace2 at h
    simp only at h
    split at h
    · cases h; exact .inl (show (-1 : Int) < 0 by decide)
    split at h
    · rename_i hc; cases h; exact .inr hc.2.1
    · cases h
  · split at h
    · cases h; exact .inr (Int.le_refl _)
    · cases h
theorem timesS_ord {ext : Bool} {s : List UInt8} {q : Int × Int × List UInt8} (h : timesS ext s = some (some q)) : TmOrd q := by
  unfold timesS at h
  split at h
  · cases h; exact .inl (show (-1 : Int) < 0 by decide)
  split at h
  · split at h
    · cases h; exact .inl (show (-1 : Int) < 0 by decide)
    split at h
    · cases h; exact .inr (show (0 : Int) ≤ 1 by decide)
    split at h
    · exact braceS_ord (Option.some.inj h)
    · cases h
  · split at h
    · exact braceS_ord (Option.some.inj h)
    · cases h
theorem repS_ord {ext : Bool} {x : Nd} {s : List UInt8} {q : Nd × List UInt8} (hx : x.ord = true) (h : repS ext x s = some q) : q.1.ord = true := by
  unfold repS at h
  split at h
  · cases h; exact hx
  · cases h
  · rename_i u hu
    split at h
    · cases h
    · cases h; exact ord_rep (timesS_ord hu) hx
theorem bracketS_ord {fold : Bool} {s : List UInt8} {q : Nd × List UInt8} (h : bracketS fold s = some q) : q.1.ord = true := by
  unfold bracketS at h
  cases hp : partsS (s.length + 1) true noB (behindNot s) with
  | none => rw [hp] at h; cases h
  | some u => rw [hp] at h; cases h; rfl
def OrdG (G : Nat → List UInt8 → RL) : Prop := ∀ m s q, G m s = some q → ∀ x ∈ q.1, x.ord = true
section
variable {mk : Nd → Nd} {fold : Bool} {G : Nat → List UInt8 → RL}
theorem closeS_ord (hmk : ∀ x, x.ord = true → (mk x).ord = true) {k : Nat} (hk : k = 4 ∨ k = 5) {shut : List UInt8} {r : RL} {q : Nd × List UInt8} (hr : ∀ t, r = some t → ∀ x ∈ t.1, x.ord = true) (h : closeS mk k shut r = some q) : q.1.ord = true := by
  unfold closeS at h
  cases r with
  | none => cases h
  | some t =>
    rw [Option.bind_some] at h
    split at h
    · cases h; exact hmk _ (ord_join hk (hr t rfl))
    · cases h
theorem atomE_ord (hmk : ∀ x, x.ord = true → (mk x).ord = true) (hG : OrdG G) {c : UInt8} {r : List UInt8} {q : Nd × List UInt8} (h : atomE mk fold G c r = some q) : q.1.ord = true := by
  unfold atomE at h
  split at h
  · exact closeS_ord hmk (.inr rfl) (fun t ht => hG _ _ _ ht) h
  split at h
  · exact bracketS_ord h
  split at h
  · cases h; rfl
  split at h
  · cases h; rfl
  split at h
  · cases h; rfl
  split at h
  · cases r with
    | nil => cases h
    | cons d t =>
      rw [quoteE] at h
      split at h
      · cases h
      · cases h; rfl
  split at h
  · cases h
  · cases h; rfl
theorem pieceE_ord (hmk : ∀ x, x.ord = true → (mk x).ord = true) (hG : OrdG G) {c : UInt8} {r : List UInt8} {q : Nd × List UInt8} (h : pieceE mk fold G c r = some q) : q.1.ord = true := by
  unfold pieceE at h
  cases ha : atomE mk fold G c r with
  | none => rw [ha] at h; cases h
  | some u =>
    have h1 := atomE_ord hmk hG ha
    rw [ha, Option.bind_some] at h
    split at h
    · split at h
      · cases h
      · cases h; exact h1
    · exact repS_ord h1 h
theorem plainB_ord (hmk : ∀ x, x.ord = true → (mk x).ord = true) (hG : OrdG G) {c : UInt8} {r : List UInt8} {q : Nd × List UInt8} (h : plainB mk fold G c r = some q) : q.1.ord = true := by
  unfold plainB at h
  split at h
  · exact bracketS_ord h
  split at h
  · cases h; rfl
  split at h
  · cases r with
    | nil => cases h
    | cons d t =>
      rw [quoteB] at h
      split at h
      · exact closeS_ord hmk (.inl rfl) (fun t ht => hG _ _ _ ht) h
      split at h
      · cases h
      · cases h; rfl
  · cases h; rfl
theorem consR_ord {x : Nd} {r : RL} {q : List Nd × List UInt8} (hx : x.ord = true) (hr : ∀ t, r = some t → ∀ y ∈ t.1, y.ord = true) (h : consR x r = some q) : ∀ y ∈ q.1, y.ord = true := by
  unfold consR at h
  cases r with
  | none => cases h
  | some t =>
    cases h
    intro y hy
    rcases List.mem_cons.1 hy with rfl | hy
    · exact hx
    · exact hr t rfl y hy
theorem step_ord (hmk : ∀ x, x.ord = true → (mk x).ord = true) (hG : OrdG G) : OrdG (step mk fold G) := by
  intro m s q h
  unfold step at h
  split at h
  · cases h1 : G 1 s with
    | none => rw [h1] at h; cases h
    | some u =>
      have hu := ord_join (.inl rfl) (hG _ _ _ h1)
      rw [h1, Option.bind_some] at h
      unfold stepA at h
      split at h
      · cases h
      split at h
      · exact consR_ord hu (fun t ht => hG _ _ _ ht) h
      · cases h; intro x hx; rw [List.mem_singleton.1 hx]; exact hu
  split at h
  · cases s with
    | nil => cases h; intro x hx; cases hx
    | cons c r =>
      rw [stepE] at h
      split at h
      · cases h; intro x hx; cases hx
      · cases hp : pieceE mk fold G c r with
        | none => rw [hp] at h; cases h
        | some u => rw [hp, Option.bind_some] at h; exact consR_ord (pieceE_ord hmk hG hp) (fun t ht => hG _ _ _ ht) h
  · cases s with
    | nil => cases h; intro x hx; cases hx
    | cons c r =>
      rw [stepB] at h
      split at h
      · cases h; intro x hx; cases hx
      split at h
      · exact consR_ord rfl (fun t ht => hG _ _ _ ht) h
      split at h
      · exact consR_ord rfl (fun t ht => hG _ _ _ ht) h
      split at h
      · cases h
      · cases hp : plainB mk fold G c r with
        | none => rw [hp] at h; cases h
        | some u =>
          rw [hp, Option.bind_some] at h
          cases hr : repS false u.1 u.2 with
          | none => rw [hr] at h; cases h
          | some t => rw [hr, Option.bind_some] at h; exact consR_ord (repS_ord (plainB_ord hmk hG hp) hr) (fun t ht => hG _ _ _ ht) h
theorem goN_ord (hmk : ∀ x, x.ord = true → (mk x).ord = true) : ∀ n, OrdG (goN mk fold n)
  | 0 => fun _ _ _ h => by cases h
  | n + 1 => step_ord hmk (goN_ord hmk n)
theorem goS_ord (hmk : ∀ x, x.ord = true → (mk x).ord = true) : OrdG (goS mk fold) := fun m s q h => goN_ord hmk _ m s q h
end
theorem read_ord {ext fold : Bool} {s : List UInt8} {x : Nd} (h : readS id ext fold s = some x) : x.ord = true := by
  unfold readS at h
  cases hu : goS id fold (if ext = true then 0 else 2) s with
  | none => rw [hu] at h; cases h
  | some u =>
    rw [hu, Option.bind_some] at h
    split at h
    · cases h; exact ord_join (by cases ext <;> simp) (goS_ord (fun x hx => hx) _ _ _ hu)
    · cases h
end Go.Proofs.YtlekfdkahlobiaaGreat.Re

namespace Go.Proofs.YtlekfdkahlobiaaGreat.Re

/-- Something that is put off. kind 0: a node; 1: a node that is one of several; 2: a way round what was put last; 3: a loop is closed. -/
structure Tsk where
  kind : Nat
  nd : Nd
  a : Nat
  least : Nat
def tNode (x : Nd) : Tsk := ⟨0, x, 0, 0⟩
def tBranch (x : Nd) (behind : Nat) : Tsk := ⟨1, x, behind, 0⟩
def tFork (other : Nat) : Tsk := ⟨2, emptyN, other, 0⟩
def tLoop (loop least : Nat) : Tsk := ⟨3, emptyN, loop, least⟩
/-- What something comes to, for any bytes. -/
def DoesA (x : Nd) (B B' : Bst) : Prop := ∀ b, Does b (x.st b) B B'
def Bst.at (B : Bst) (f : Nat) : Bst := ⟨B.sts, B.sets, f⟩
def Bst.patch (B : Bst) (loop : Nat) (s : Stt) (f : Nat) : Bst := ⟨B.sts.set loop s, B.sets, f⟩
def Ex (t : Tsk) (B B' : Bst) : Prop :=
  if t.kind = 0 then DoesA t.nd B B'
  else if t.kind = 1 then ∃ B2, DoesA t.nd (B.at t.a) B2 ∧ B' = B2.put ⟨4, 0, B2.first, B.first⟩
  else if t.kind = 2 then B' = B.put ⟨4, 0, B.first, t.a⟩
  else ∃ s, B.sts[t.a]? = some s ∧ B' = B.patch t.a ⟨s.kind, s.set, B.first, s.other⟩ (if t.least = 0 then t.a else B.first)
def RunT : List Tsk → Bst → Bst → Prop
  | [], B, B' => B' = B
  | t :: T, B, B' => ∃ B1, Ex t B B1 ∧ RunT T B1 B'
theorem run_app : ∀ {T U : List Tsk} {B B' : Bst}, RunT (T ++ U) B B' ↔ ∃ B1, RunT T B B1 ∧ RunT U B1 B'
  | [], U, B, B' => ⟨fun h => ⟨B, rfl, h⟩, fun ⟨_, e, h⟩ => by cases e; exact h⟩
  | t :: T, U, B, B' => by
    constructor
    · rintro ⟨B1, h1, h2⟩
      obtain ⟨B2, h3, h4⟩ := run_app.1 h2
      exact ⟨B2, ⟨B1, h1, h3⟩, h4⟩
    · rintro ⟨B2, ⟨B1, h1, h3⟩, h4⟩
      exact ⟨B1, h1, run_app.2 ⟨B2, h3, h4⟩⟩
theorem ex_node {x : Nd} {B B' : Bst} : Ex (tNode x) B B' ↔ DoesA x B B' := Iff.rfl
/-- What a node is turned into: at once B', and to be done T. -/
def Steps (x : Nd) (B B' : Bst) (T : List Tsk) : Prop := ∀ Bf, RunT T B' Bf → DoesA x B Bf
theorem steps_cat {p : UInt8 → Bool} {m n : Int} (B : Bst) : ∀ (l : List Nd), ∀ Bf, RunT (l.reverse.map tNode) B Bf → DoesA ⟨4, p, m, n, l⟩ B Bf := by
  intro l Bf h b
  have key : ∀ (l : List Nd) (Bf : Bst), RunT (l.reverse.map tNode) B Bf → Does b (catR (Nd.st.sts b l)) B Bf := by
    intro l
    induction l with
    | nil =>
      intro Bf h
      have e : Bf = B := h
      subst e
      exact Does.refl b Bf
    | cons x l ih =>
      intro Bf h
      rw [List.reverse_cons, List.map_append, run_app] at h
      obtain ⟨B1, h1, B2, h2, e⟩ := h
      have e : Bf = B2 := e
      subst e
      exact Does.seq (st_fwd b x) (ih B1 h1) (ex_node.1 h2 b)
  rw [(st_kinds b p m n l).2.2.2.2.1]
  exact key l Bf h
theorem at_grw (B : Bst) (f : Nat) : Grw B (B.at f) ∧ Grw (B.at f) B := ⟨⟨Nat.le_refl _, fun _ _ h => h, fun _ _ h => h⟩, ⟨Nat.le_refl _, fun _ _ h => h, fun _ _ h => h⟩⟩
theorem steps_alt {p : UInt8 → Bool} {m n : Int} {B : Bst} (h0 : 0 < B.sts.length) (l : List Nd) (x : Nd) : ∀ Bf, RunT (tNode x :: l.reverse.map fun k => tBranch k B.first) B Bf → DoesA ⟨5, p, m, n, l ++ [x]⟩ B Bf := by
  intro Bf h b
  obtain ⟨B1, h1, h2⟩ := h
  have h1 := ex_node.1 h1 b
  have key : ∀ (l : List Nd) (r : Rl) (B1 Bf : Bst), Does b r B B1 → RunT (l.reverse.map fun k => tBranch k B.first) B1 Bf → Does b (fun i j => altR (Nd.st.sts b l) i j ∨ r i j) B Bf := by
    intro l
    induction l with
    | nil =>
      intro r B1 Bf h1 h2
      have e : Bf = B1 := h2
      subst e
      exact h1.rel fun i j => ⟨.inr, fun h => h.elim (fun h => by cases h) id⟩
    | cons y l ih =>
      intro r B1 Bf h1 h2
      rw [List.reverse_cons, List.map_append, run_app] at h2
      obtain ⟨B2, h3, B3, ⟨B4, h4, e4⟩, e⟩ := h2
      have e : Bf = B3 := e
      subst e
      have h5 := ih r B1 B2 h1 h3
      have h4 := h4 b
      have g5 := h5.grw
      have g4 : Grw B2 B4 := (at_grw B2 B.first).1.trans h4.grw
      have l1 : Leads b (y.st b) B.sts.length B4 B.first B4.first := h4.leads.mono g5.ge ⟨Nat.le_refl _, fun _ _ h => h, fun _ _ h => h⟩
      have l2 : Leads b (fun i j => altR (Nd.st.sts b l) i j ∨ r i j) B.sts.length B4 B.first B2.first := h5.leads.mono (Nat.le_refl _) g4
      have g := g5.trans g4
      have l3 := Leads.either g.ge (Nat.lt_of_lt_of_le h0 g.ge) l1 l2
      have e4 : Bf = B4.put ⟨4, 0, B4.first, B2.first⟩ := e4
      subst e4
      have g6 := g.trans (put_grw B4 ⟨4, 0, B4.first, B2.first⟩)
      have l4 := l3.rel (r' := fun i j => altR (Nd.st.sts b (y :: l)) i j ∨ r i j) fun i j => by
        rw [Nd.st.sts]
        show (y.st b i j ∨ (altR (Nd.st.sts b l) i j ∨ r i j)) ↔ ((y.st b i j ∨ altR (Nd.st.sts b l) i j) ∨ r i j)
        exact or_assoc.symm
      exact ⟨g6.ge, g6.sets, g6.old, .inr ⟨g.ge, by simp [Bst.put]⟩, l4.tow, l4.fr⟩
  have h3 := key l (x.st b) B1 Bf h1 h2
  rw [(st_kinds b p m n (l ++ [x])).2.2.2.2.2.1]
  refine h3.rel fun i j => ?_
  clear h3 h2 h1 key
  induction l with
  | nil => simp [Nd.st.sts, altR]
  | cons y l ih =>
    rw [List.cons_append, Nd.st.sts, Nd.st.sts]
    show ((y.st b i j ∨ altR (Nd.st.sts b l) i j) ∨ x.st b i j) ↔ (y.st b i j ∨ altR (Nd.st.sts b (l ++ [x])) i j)
    rw [← ih]
    exact or_assoc
/-- So many times, one behind the other. -/
theorem times_run {b : List UInt8} {x : Nd} : ∀ {c : Nat} {r : Rl} {B B1 Bf : Bst}, Does b r B B1 → RunT (List.replicate c (tNode x)) B1 Bf → Does b (fun i j => ∃ k, iterR (x.st b) c i k ∧ r k j) B Bf
  | 0, r, B, B1, Bf, h, h2 => by
    have e : Bf = B1 := h2
    subst e
    exact h.rel fun i j => ⟨fun h => ⟨i, rfl, h⟩, fun ⟨k, e, h⟩ => by cases e; exact h⟩
  | c + 1, r, B, B1, Bf, h, h2 => by
    rw [List.replicate_succ'] at h2
    obtain ⟨B2, h3, B3, h4, e⟩ := run_app.1 h2
    have e : Bf = B3 := e
    subst e
    have h5 := times_run h h3
    have h6 := Does.seq (st_fwd b x) h5 (ex_node.1 h4 b)
    refine h6.rel fun i j => ?_
    constructor
    · rintro ⟨k, h7, m, h8, h9⟩
      exact ⟨m, ⟨k, h7, h8⟩, h9⟩
    · rintro ⟨m, ⟨k, h7, h8⟩, h9⟩
      exact ⟨k, h7, m, h8, h9⟩
/-- Perhaps, so many times. -/
theorem maybe_run {b : List UInt8} {x : Nd} {B : Bst} (h0 : 0 < B.sts.length) : ∀ {t : Nat} {Bf : Bst}, RunT (List.replicate t [tNode x, tFork B.first]).flatten B Bf → Does b (fun i j => ∃ c, c ≤ t ∧ iterR (x.st b) c i j) B Bf
  | 0, Bf, h => by
    have e : Bf = B := h
    subst e
    exact (Does.refl b Bf).rel fun i j => ⟨fun e => ⟨0, Nat.le_refl _, e⟩, fun ⟨c, hc, h⟩ => by cases Nat.le_zero.1 hc; exact h⟩
  | t + 1, Bf, h => by
    rw [List.replicate_succ', List.flatten_append, run_app] at h
    obtain ⟨B1, h1, B2, h2, B3, h3, e⟩ := h
    have e : Bf = B3 := e
    subst e
    have h5 := maybe_run (b := b) h0 h1
    have h6 := Does.seq (st_fwd b x) h5 (ex_node.1 h2 b)
    have g := h6.grw
    have l3 := Leads.either g.ge (Nat.lt_of_lt_of_le h0 g.ge) (h6.leads.mono (Nat.le_refl _) (⟨Nat.le_refl _, fun _ _ h => h, fun _ _ h => h⟩ : Grw B2 B2)) (Leads.refl b B.sts.length B2 B.first)
    have h3 : Bf = B2.put ⟨4, 0, B2.first, B.first⟩ := h3
    subst h3
    have g6 := g.trans (put_grw B2 ⟨4, 0, B2.first, B.first⟩)
    have l4 := l3.rel (r' := fun i j => ∃ c, c ≤ t + 1 ∧ iterR (x.st b) c i j) fun i j => by
      constructor
      · rintro (⟨k, h7, c, h8, h9⟩ | h)
        · exact ⟨c + 1, by omega, k, h7, h9⟩
        · exact ⟨0, Nat.zero_le _, h⟩
      · rintro ⟨c, hc, h⟩
        cases c with
        | zero => exact .inr h
        | succ c =>
          obtain ⟨k, h7, h8⟩ := h
          exact .inl ⟨k, h7, c, by omega, h8⟩
    exact ⟨g6.ge, g6.sets, g6.old, .inr ⟨g.ge, by simp [Bst.put]⟩, l4.tow, l4.fr⟩
theorem steps_rep {p : UInt8 → Bool} {m n : Nat} {x : Nd} {B : Bst} (h0 : 0 < B.sts.length) (hmn : m ≤ n) : ∀ Bf, RunT ((List.replicate (n - m) [tNode x, tFork B.first]).flatten ++ List.replicate m (tNode x)) B Bf → DoesA ⟨6, p, m, n, [x]⟩ B Bf := by
  intro Bf h b
  obtain ⟨B1, h1, h2⟩ := run_app.1 h
  have h3 := times_run (maybe_run (b := b) h0 h1) h2
  rw [(st_kinds b p m n [x]).2.2.2.2.2.2]
  refine h3.rel fun i j => ?_
  show (∃ k, iterR (x.st b) m i k ∧ ∃ c, c ≤ n - m ∧ iterR (x.st b) c k j) ↔ ∃ c : Nat, (m : Int) ≤ c ∧ ((n : Int) < 0 ∨ (c : Int) ≤ n) ∧ iterR (x.st b) c i j
  constructor
  · rintro ⟨k, h4, c, h5, h6⟩
    exact ⟨m + c, by omega, .inr (by omega), iter_app.2 ⟨k, h4, h6⟩⟩
  · rintro ⟨c, h4, h5, h6⟩
    rw [show c = m + (c - m) by omega] at h6
    obtain ⟨k, h7, h8⟩ := iter_app.1 h6
    exact ⟨k, h7, c - m, by omega, h8⟩
theorem steps_loop {p : UInt8 → Bool} {m : Nat} {n : Int} (hn : n < 0) {x : Nd} {B : Bst} (h0 : 0 < B.sts.length) : ∀ Bf, RunT (tNode x :: tLoop B.sts.length m :: List.replicate (m - 1) (tNode x)) (B.put ⟨4, 0, 0, B.first⟩) Bf → DoesA ⟨6, p, m, n, [x]⟩ B Bf := by
  intro Bf h b
  obtain ⟨B2, h1, B3, ⟨s, hs, e3⟩, h4⟩ := h
  have h1 := ex_node.1 h1 b
  have hl1 : (B.put ⟨4, 0, 0, B.first⟩).sts.length = B.sts.length + 1 := by simp [Bst.put]
  have hs0 := h1.old _ _ (put_get B ⟨4, 0, 0, B.first⟩)
  have hs : B2.sts[B.sts.length]? = some s := hs
  rw [hs0] at hs
  cases hs
  have e3 : B3 = B2.patch B.sts.length ⟨4, 0, B2.first, B.first⟩ (if m = 0 then B.sts.length else B2.first) := e3
  have hlen : B.sts.length < B2.sts.length := by have := h1.ge; omega
  have hget : B3.sts[B.sts.length]? = some ⟨4, 0, B2.first, B.first⟩ := by
    rw [e3]
    simp only [Bst.patch]
    rw [List.getElem?_set, if_pos rfl, if_pos hlen]
  have hsts : ∀ q, q ≠ B.sts.length → B3.sts[q]? = B2.sts[q]? := fun q hq => by
    rw [e3]
    simp only [Bst.patch]
    rw [List.getElem?_set, if_neg (fun e => hq e.symm)]
  have hsets : B3.sets = B2.sets := by rw [e3]; rfl
  have hl3 : B3.sts.length = B2.sts.length := by rw [e3]; simp [Bst.patch]
  have g3 : Grw B B3 := by
    refine ⟨by omega, fun q p' h => by rw [hsets]; exact h1.sets q p' h, fun q t h => ?_⟩
    have hq := (List.getElem?_eq_some_iff.1 h).1
    rw [hsts q (by omega)]
    exact h1.old q t (put_old B _ h)
  have hB : ∀ F, ExtF B.sts.length B3 F → ExtF (B.sts.length + 1) B2 F := fun F hx => ⟨fun q t hq h => hx.1 q t (by omega) (by rw [hsts q (by omega)]; exact h), fun q p' h => hx.2 q p' (by rw [hsets]; exact h)⟩
  have hk := h1.leads
  rw [hl1] at hk
  have hstar := loop_star (st_fwd b x) (Nat.le_refl _) h0 hB hk hget
  rw [(st_kinds b p m n [x]).2.2.2.2.2.2]
  show Does b (fun i j => ∃ c : Nat, (m : Int) ≤ c ∧ (n < 0 ∨ (c : Int) ≤ n) ∧ iterR (x.st b) c i j) B Bf
  by_cases hm : m = 0
  · subst hm
    rw [if_pos rfl] at e3
    have e : Bf = B3 := h4
    subst e
    have l := hstar.rel (r' := fun i j => ∃ c : Nat, ((0 : Nat) : Int) ≤ c ∧ (n < 0 ∨ (c : Int) ≤ n) ∧ iterR (x.st b) c i j) fun i j => ⟨fun ⟨c, h⟩ => ⟨c, by omega, .inl hn, h⟩, fun ⟨c, _, _, h⟩ => ⟨c, h⟩⟩
    have hf : Bf.first = B.sts.length := by rw [e3]; rfl
    exact ⟨g3.ge, g3.sets, g3.old, .inr ⟨by rw [hf]; exact Nat.le_refl _, by rw [hf, hl3]; exact hlen⟩, by rw [hf]; exact l.tow, by rw [hf]; exact l.fr⟩
  · rw [if_neg hm] at e3
    have hf : B3.first = B2.first := by rw [e3]; rfl
    have hk2 : Leads b (x.st b) B.sts.length B3 B.sts.length B2.first := ⟨fun F hx => hk.tow F (hB F hx), fun F hx => hk.fr F (hB F hx)⟩
    have l1 := Leads.seq (st_fwd b x) hstar hk2
    have hd : Does b (fun i j => ∃ k, x.st b i k ∧ starR (x.st b) k j) B B3 := by
      refine ⟨g3.ge, g3.sets, g3.old, ?_, by rw [hf]; exact l1.tow, by rw [hf]; exact l1.fr⟩
      rw [hf, hl3]
      rcases h1.first with h | ⟨h, h'⟩
      · exact .inr ⟨by rw [h]; exact Nat.le_refl _, by rw [h]; exact hlen⟩
      · exact .inr ⟨by omega, h'⟩
    have h5 := times_run hd h4
    refine h5.rel fun i j => ?_
    constructor
    · rintro ⟨k, h6, y, h7, c, h8⟩
      exact ⟨(m - 1) + (c + 1), by omega, .inl hn, iter_app.2 ⟨k, h6, y, h7, h8⟩⟩
    · rintro ⟨c, h6, _, h7⟩
      rw [show c = (m - 1) + ((c - m) + 1) by omega] at h7
      obtain ⟨k, h8, y, h9, h10⟩ := iter_app.1 h7
      exact ⟨k, h8, y, h9, c - m, h10⟩
end Go.Proofs.YtlekfdkahlobiaaGreat.Re
