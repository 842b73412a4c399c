/-
  SP, of no program: a strand is ahead just of those to which it leads.
-/
import Derived.Test.YtjpimaiogdckpaaSpS
namespace Go.Proofs.Ytjpimaiogdckpaa
open Go

/-- ahead in both lists -/
def Ahd (s : SpS) (x y : Nat) : Prop := ltL s.E x y ∧ ltL s.H x y
theorem Ahd.irr (s : SpS) (x : Nat) : ¬ Ahd s x x := fun h => absurd h.1 (Int.lt_irrefl _)
theorem Ahd.asym {s : SpS} {x y : Nat} (h : Ahd s x y) : ¬ Ahd s y x := fun k => absurd (Int.lt_trans h.1 k.1) (Int.lt_irrefl _)
theorem Ahd.ne {s : SpS} {x y : Nat} (h : Ahd s x y) : x ≠ y := fun e => Ahd.irr s x (by rw [e] at h ⊢; exact h)

/-- what stands from n on stands just behind a -/
structure Cls (E : List Int) (a n : Nat) (l : List Int) : Prop where
  len : n ≤ l.length
  old : ∀ i j, i < n → j < n → (ltL l i j ↔ ltL E i j)
  lo : ∀ k i, n ≤ k → k < l.length → i < n → (ltL l i k ↔ ¬ ltL E a i)
  up : ∀ k i, n ≤ k → k < l.length → i < n → (ltL l k i ↔ ltL E a i)
theorem Cls.start {E : List Int} {a n : Nat} (h : E.length = n) : Cls E a n E := ⟨by omega, fun _ _ _ _ => Iff.rfl, fun k i h1 h2 => by omega, fun k i h1 h2 => by omega⟩
theorem Cls.step {E l L : List Int} {a n y : Nat} (h : Cls E a n l) (ha : a < n) (hy : y = a ∨ n ≤ y) (hyl : y < l.length) (hB : Behind l y L) : Cls E a n L := by
  have hl := h.len
  have key : ∀ i, i < n → (ltL l y i ↔ ltL E a i) := fun i hi => by
    rcases hy with rfl | hy
    · exact h.old y i ha hi
    · exact h.up y i hy hyl hi
  refine ⟨by rw [hB.len]; omega, fun i j hi hj => (hB.old i j (by omega) (by omega)).trans (h.old i j hi hj), fun k i h1 h2 hi => ?_, fun k i h1 h2 hi => ?_⟩
  · rw [hB.len] at h2
    by_cases e : k < l.length
    · exact (hB.old i k (by omega) e).trans (h.lo k i h1 e hi)
    · obtain rfl : k = l.length := by omega
      refine (hB.lo i (by omega)).trans ?_
      rw [← key i hi]
      unfold ltL
      omega
  · rw [hB.len] at h2
    by_cases e : k < l.length
    · exact (hB.old k i e (by omega)).trans (h.up k i h1 e hi)
    · obtain rfl : k = l.length := by omega
      exact (hB.up i (by omega)).trans (key i hi)
theorem forkE_cls {E : List Int} (h : Rt E) {a n : Nat} (hl : E.length = n) (ha : a < n) (hn : n + 3 ≤ 1000) (new : Bool) :
    Cls E a n (forkE E a n new) ∧ ltL (forkE E a n new) n (n + 1) ∧ (new = true → ltL (forkE E a n new) (n + 1) (n + 2) ∧ ltL (forkE E a n new) n (n + 2)) := by
  have b1 := behind_ok h a (by omega)
  obtain ⟨r1, l1, _⟩ := beh_all h (x := a) (by omega) (by omega)
  have b2 := behind_ok r1 n (by omega)
  obtain ⟨r2, l2, _⟩ := beh_all r1 (x := n) (by omega) (by omega)
  have b3 := behind_ok r2 (n + 1) (by omega)
  have c1 := (Cls.start (a := a) hl).step ha (.inl rfl) (by omega) b1
  have c2 := c1.step ha (.inr (Nat.le_refl _)) (by omega) b2
  have q1 : ltL (behL (behL E a) n) n (n + 1) := by
    have := (b2.lo n (by omega)).2 (Int.le_refl _)
    rwa [l1, hl] at this
  cases new with
  | false => exact ⟨c2, q1, fun h => by cases h⟩
  | true =>
    have c3 := c2.step ha (.inr (Nat.le_succ _)) (by omega) b3
    have q2 : ltL (behL (behL (behL E a) n) (n + 1)) n (n + 1) := (b3.old n (n + 1) (by omega) (by omega)).2 q1
    have q3 : ltL (behL (behL (behL E a) n) (n + 1)) (n + 1) (n + 2) := by
      have := (b3.lo (n + 1) (by omega)).2 (Int.le_refl _)
      rwa [l2, l1, hl] at this
    exact ⟨c3, q2, fun _ => ⟨q3, Int.lt_trans q2 q3⟩⟩
theorem forkH_cls {E : List Int} (h : Rt E) {a n : Nat} (hl : E.length = n) (ha : a < n) (hn : n + 3 ≤ 1000) (new : Bool) :
    Cls E a n (forkH E a n new) ∧ ltL (forkH E a n new) (n + 1) n ∧ (new = true → ltL (forkH E a n new) n (n + 2) ∧ ltL (forkH E a n new) (n + 1) (n + 2)) := by
  have b1 := behind_ok h a (by omega)
  obtain ⟨r1, l1, _⟩ := beh_all h (x := a) (by omega) (by omega)
  have b2 := behind_ok r1 a (by omega)
  obtain ⟨r2, l2, _⟩ := beh_all r1 (x := a) (by omega) (by omega)
  have b3 := behind_ok r2 n (by omega)
  have c1 := (Cls.start (a := a) hl).step ha (.inl rfl) (by omega) b1
  have c2 := c1.step ha (.inl rfl) (by omega) b2
  have q0 : (behL E a).getD a 0 < (behL E a).getD n 0 := by
    have := (b1.lo a (by omega)).2 (Int.le_refl _)
    rwa [hl] at this
  have q1 : ltL (behL (behL E a) a) (n + 1) n := by
    have := (b2.up n (by omega)).2 q0
    rwa [l1, hl] at this
  cases new with
  | false => exact ⟨c2, q1, fun h => by cases h⟩
  | true =>
    have c3 := c2.step ha (.inr (Nat.le_refl _)) (by omega) b3
    have q2 : ltL (behL (behL (behL E a) a) n) (n + 1) n := (b3.old (n + 1) n (by omega) (by omega)).2 q1
    have q3 : ltL (behL (behL (behL E a) a) n) n (n + 2) := by
      have := (b3.lo n (by omega)).2 (Int.le_refl _)
      rwa [l2, l1, hl] at this
    exact ⟨c3, q2, fun _ => ⟨q3, Int.lt_trans q2 q3⟩⟩

/-- how strands stand behind a fork -/
structure FkA (s t : SpS) (a : Nat) : Prop where
  old : ∀ i j, i < s.n → j < s.n → (Ahd t i j ↔ Ahd s i j)
  lo : ∀ k i, s.n ≤ k → k < t.n → i < s.n → (Ahd t i k ↔ i = a ∨ Ahd s i a)
  up : ∀ k i, s.n ≤ k → k < t.n → i < s.n → (Ahd t k i ↔ Ahd s a i)
  n1 : ¬ Ahd t s.n (s.n + 1)
  n2 : ¬ Ahd t (s.n + 1) s.n
theorem fork_fka {s : SpS} (h : s.Ok) {a : Nat} (ha : a < s.n) (hn : s.n + 3 ≤ 1000) (new : Bool) (st : List (Nat × Nat)) (m : Nat) (hm : m = if new then s.n + 3 else s.n + 2) :
    FkA s ⟨m, st, forkE s.E a s.n new, forkH s.H a s.n new⟩ a ∧ (new = true → Ahd ⟨m, st, forkE s.E a s.n new, forkH s.H a s.n new⟩ s.n (s.n + 2) ∧ Ahd ⟨m, st, forkE s.E a s.n new, forkH s.H a s.n new⟩ (s.n + 1) (s.n + 2)) := by
  obtain ⟨e1, e2, e3⟩ := forkE_cls h.e h.le ha hn new
  obtain ⟨k1, k2, k3⟩ := forkH_cls h.h h.lh ha hn new
  have lE : (forkE s.E a s.n new).length = m := by
    have := fork_ok h.e h.le ha hn
    cases new
    · exact this.1.2.1.trans hm.symm
    · exact this.2.1.2.1.trans hm.symm
  have lH : (forkH s.H a s.n new).length = m := by
    have := fork_ok h.h h.lh ha hn
    cases new
    · exact this.2.2.1.2.1.trans hm.symm
    · exact this.2.2.2.2.1.trans hm.symm
  have dE : ∀ i, i < s.n → s.E.getD i 0 = s.E.getD a 0 → i = a := fun i hi e => nodup_getD h.e.2.2.2 (by rw [h.le]; exact hi) (by rw [h.le]; exact ha) e
  have dH : ∀ i, i < s.n → s.H.getD i 0 = s.H.getD a 0 → i = a := fun i hi e => nodup_getD h.h.2.2.2 (by rw [h.lh]; exact hi) (by rw [h.lh]; exact ha) e
  refine ⟨⟨fun i j hi hj => and_congr (e1.old i j hi hj) (k1.old i j hi hj), fun k i h1 h2 hi => ?_, fun k i h1 h2 hi => ?_, fun q => ?_, fun q => ?_⟩, fun hw => ⟨⟨(e3 hw).2, (k3 hw).1⟩, ⟨(e3 hw).1, (k3 hw).2⟩⟩⟩
  · refine (and_congr (e1.lo k i h1 (by rw [lE]; exact h2) hi) (k1.lo k i h1 (by rw [lH]; exact h2) hi)).trans ?_
    constructor
    · rintro ⟨q1, q2⟩
      by_cases e : i = a
      · exact .inl e
      · unfold ltL at q1 q2
        have z1 : s.E.getD i 0 ≠ s.E.getD a 0 := fun z => e (dE i hi z)
        have z2 : s.H.getD i 0 ≠ s.H.getD a 0 := fun z => e (dH i hi z)
        exact .inr ⟨by unfold ltL; omega, by unfold ltL; omega⟩
    · rintro (rfl | ⟨q1, q2⟩)
      · exact ⟨Int.lt_irrefl _, Int.lt_irrefl _⟩
      · unfold ltL at q1 q2 ⊢
        exact ⟨by omega, by omega⟩
  · exact and_congr (e1.up k i h1 (by rw [lE]; exact h2) hi) (k1.up k i h1 (by rw [lH]; exact h2) hi)
  · have := Int.lt_trans q.2 k2
    exact absurd this (Int.lt_irrefl _)
  · have := Int.lt_trans q.1 e2
    exact absurd this (Int.lt_irrefl _)

/-- to what a strand leads, one split more -/
def ledP (f : Nat → Prop) (x : SplV) : Nat → Prop := fun y => f y ∨ (f x.a.toNat ∧ ((x.kind = 1 ∧ ((y : Int) = x.b ∨ (y : Int) = x.c)) ∨ (x.kind ≠ 1 ∧ (y : Int) = x.d)))
/-- which have begun, one split more -/
def bgP (B : Nat → Prop) (x : SplV) : Nat → Prop := fun y => B y ∨ (x.kind = 1 ∧ ((y : Int) = x.b ∨ (y : Int) = x.c)) ∨ (x.kind = 3 ∧ (y : Int) = x.d)

structure Lds (s : SpS) (F : Nat → Nat → Prop) (B : Nat → Prop) : Prop where
  bn : ∀ y, B y → y < s.n
  act : ∀ t ∈ s.st, B t.1
  dis : s.st.Pairwise fun t u => t.1 ≠ u.1
  jnb : ∀ t ∈ s.st, t.2 ≠ 0 → ¬ B t.2
  low : ∀ t ∈ s.st.tail, t.2 ≠ 0
  leaf : ∀ t ∈ s.st, ∀ z, F t.1 z → z = t.1
  rf : ∀ x, F x x
  unb : ∀ x, ¬ B x → ∀ z, F x z → z = x
  inn : ∀ x y, F x y → y = x ∨ y < s.n
  main : ∀ x y, B x → B y → x ≠ y → (Ahd s x y ↔ F x y)
  nob : ∀ t ∈ s.st, t.2 ≠ 0 → ∀ x, B x → ¬ Ahd s t.2 x
  join : ∀ u a j r, s.st = u ++ (a, j) :: r → j ≠ 0 → ∀ x, B x → (Ahd s x j ↔ F x j ∨ F x a ∨ ∃ t ∈ u, F x t.1 ∨ (t.2 ≠ 0 ∧ F x t.2))
  ups : ∀ u a j r, s.st = u ++ (a, j) :: r → j ≠ 0 → ∀ t ∈ u, t.2 ≠ 0 → Ahd s t.2 j

theorem lds_zero : Lds .zero (fun x y => y = x) (fun y => y = 0) := by
  refine ⟨fun y hy => by subst hy; decide, ?_, by simp [SpS.zero], ?_, by simp [SpS.zero], ?_, fun _ => rfl, fun _ _ _ h => h, fun _ _ h => .inl h, fun x y hx hy hxy => absurd (hx.trans hy.symm) hxy, ?_, fun u a j r e hj => ?_, fun u a j r e hj => ?_⟩
  · intro t ht; simp [SpS.zero] at ht; rw [ht]
  · intro t ht; simp [SpS.zero] at ht; rw [ht]; intro h; exact absurd rfl h
  · intro t ht z hz; exact hz
  · intro t ht; simp [SpS.zero] at ht; rw [ht]; intro h; exact absurd rfl h
  all_goals
    exfalso
    match u, e with
    | [], e => simp [SpS.zero] at e; exact hj e.1.2.symm
    | _ :: u, e => simp [SpS.zero] at e

/-- a fork -/
theorem fork_lds {s t : SpS} {F : Nat → Nat → Prop} {B : Nat → Prop} {a j d : Nat} {r : List (Nat × Nat)} (h : Lds s F B) (ok : s.Ok) (hst : s.st = (a, j) :: r) (hts : t.st = (s.n, 0) :: (s.n + 1, d) :: r) (hm : s.n + 2 ≤ t.n) (A : FkA s t a)
    (d0 : d ≠ 0) (dB : ¬ B d) (Dx : ∀ x, B x → (Ahd t x d ↔ F x d ∨ F x a)) (Dn : Ahd t s.n d) (Dn1 : Ahd t (s.n + 1) d) (Dnob : ∀ x, B x → ¬ Ahd t d x) (Dj : ∀ x, B x → (F x d ↔ j ≠ 0 ∧ F x j))
    (Dups : ∀ u a1 j1 r1, r = u ++ (a1, j1) :: r1 → j1 ≠ 0 → Ahd t d j1)
    {F' : Nat → Nat → Prop} {B' : Nat → Prop} (hF : ∀ z y, F' z y ↔ F z y ∨ (F z a ∧ (y = s.n ∨ y = s.n + 1))) (hB : ∀ y, B' y ↔ B y ∨ y = s.n ∨ y = s.n + 1) : Lds t F' B' := by
  have hBa : B a := h.act (a, j) (by rw [hst]; simp)
  have ha : a < s.n := h.bn a hBa
  have hnd : s.n ≠ d := Dn.ne
  have hnd1 : s.n + 1 ≠ d := Dn1.ne
  have hdis := h.dis
  rw [hst] at hdis
  obtain ⟨dis1, dis2⟩ := List.pairwise_cons.1 hdis
  have hr : ∀ t ∈ r, t ∈ s.st := fun t ht => by rw [hst]; simp [ht]
  have hrB : ∀ t ∈ r, B t.1 ∧ t.1 < s.n := fun t ht => ⟨h.act t (hr t ht), h.bn _ (h.act t (hr t ht))⟩
  have hrj : ∀ t ∈ r, t.2 ≠ 0 ∧ ¬ B t.2 ∧ t.2 < s.n := fun t ht => by
    have h0 := h.low t (by rw [hst]; exact ht)
    exact ⟨h0, h.jnb t (hr t ht) h0, (ok.st t (hr t ht)).2⟩
  have nB : ¬ B s.n := fun q => absurd (h.bn _ q) (Nat.lt_irrefl _)
  have nB1 : ¬ B (s.n + 1) := fun q => absurd (h.bn _ q) (by omega)
  have Fn : ∀ z y, B z → s.n ≤ y → ¬ F z y := fun z y hz hy q => by
    rcases h.inn z y q with e | e
    · have := h.bn z hz; omega
    · omega
  have Fa : ∀ y, F a y → y = a := fun y q => h.leaf (a, j) (by rw [hst]; simp) y q
  have FN : ∀ z, F s.n z → z = s.n := h.unb _ nB
  have FN1 : ∀ z, F (s.n + 1) z → z = s.n + 1 := h.unb _ nB1
  have AX : ∀ x, B x → (x = a ∨ Ahd s x a ↔ F x a) := fun x hx => by
    by_cases e : x = a
    · subst e; exact ⟨fun _ => h.rf _, fun _ => .inl rfl⟩
    · rw [h.main x a hx hBa e]
      exact ⟨fun q => q.resolve_left e, .inr⟩
  have AN : ∀ y, B y → ¬ Ahd s a y := fun y hy q => by
    have h1 := (h.main a y hBa hy q.ne).1 q
    exact q.ne (Fa y h1).symm
  have f'n : ∀ z, F' s.n z → z = s.n := fun z q => by
    rcases (hF _ _).1 q with q | ⟨q, _⟩
    · exact FN z q
    · have := FN a q; omega
  have f'n1 : ∀ z, F' (s.n + 1) z → z = s.n + 1 := fun z q => by
    rcases (hF _ _).1 q with q | ⟨q, _⟩
    · exact FN1 z q
    · have := FN1 a q; omega
  have f'o : ∀ z y, y < s.n → (F' z y ↔ F z y) := fun z y hy => by
    rw [hF]
    exact ⟨fun q => q.resolve_right (fun q => by omega), .inl⟩
  have f'k : ∀ x, B x → (F' x s.n ↔ F x a) ∧ (F' x (s.n + 1) ↔ F x a) := fun x hx => by
    rw [hF, hF]
    exact ⟨⟨fun q => q.elim (fun q => absurd q (Fn x _ hx (Nat.le_refl _))) (·.1), fun q => .inr ⟨q, .inl rfl⟩⟩, ⟨fun q => q.elim (fun q => absurd q (Fn x _ hx (by omega))) (·.1), fun q => .inr ⟨q, .inr rfl⟩⟩⟩
  have f'd : ∀ x, B x → (F' x d ↔ F x d) := fun x hx => by
    rw [hF]
    exact ⟨fun q => q.resolve_right (fun q => by omega), .inl⟩
  have Alow : ∀ u a1 j1 r1, r = u ++ (a1, j1) :: r1 → j1 ≠ 0 → Ahd s a j1 := fun u a1 j1 r1 e hj1 =>
    (h.join ((a, j) :: u) a1 j1 r1 (by rw [hst, e]; rfl) hj1 a hBa).2 (.inr (.inr ⟨(a, j), by simp, .inl (h.rf a)⟩))
  have f'rf : ∀ x, F' x x := fun x => (hF _ _).2 (.inl (h.rf x))
  refine ⟨?_, ?_, ?_, ?_, ?_, ?_, f'rf, ?_, ?_, ?_, ?_, ?_, ?_⟩
  · intro y hy
    rcases (hB y).1 hy with q | q | q
    · have := h.bn y q; omega
    · omega
    · omega
  · intro u hu
    rw [hts] at hu
    simp only [List.mem_cons] at hu
    rcases hu with rfl | rfl | hu
    · exact (hB _).2 (.inr (.inl rfl))
    · exact (hB _).2 (.inr (.inr rfl))
    · exact (hB _).2 (.inl (hrB u hu).1)
  · rw [hts]
    refine List.pairwise_cons.2 ⟨fun u hu => ?_, List.pairwise_cons.2 ⟨fun u hu => ?_, dis2⟩⟩
    · simp only [List.mem_cons] at hu
      rcases hu with rfl | hu
      · exact fun e => by simp at e
      · have := (hrB u hu).2; intro e; simp only at e; omega
    · have := (hrB u hu).2; intro e; simp only at e; omega
  · intro u hu h0 q
    rw [hts] at hu
    simp only [List.mem_cons] at hu
    rcases hu with rfl | rfl | hu
    · exact h0 rfl
    · rcases (hB _).1 q with q | q | q
      · exact dB q
      · exact hnd q.symm
      · exact hnd1 q.symm
    · have h3 := hrj u hu
      rcases (hB _).1 q with q | q | q
      · exact h3.2.1 q
      · omega
      · omega
  · intro u hu
    rw [hts] at hu
    simp only [List.tail_cons, List.mem_cons] at hu
    rcases hu with rfl | hu
    · exact d0
    · exact (hrj u hu).1
  · intro u hu z q
    rw [hts] at hu
    simp only [List.mem_cons] at hu
    rcases hu with rfl | rfl | hu
    · exact f'n z q
    · exact f'n1 z q
    · rcases (hF _ _).1 q with q | ⟨q, _⟩
      · exact h.leaf u (hr u hu) z q
      · exact absurd (h.leaf u (hr u hu) a q) (dis1 u hu)
  · intro x hx z q
    have hx0 : ¬ B x := fun k => hx ((hB x).2 (.inl k))
    rcases (hF _ _).1 q with q | ⟨q, _⟩
    · exact h.unb x hx0 z q
    · have := h.unb x hx0 a q
      exact absurd (this ▸ hBa) hx0
  · intro x y q
    rcases (hF _ _).1 q with q | ⟨_, q⟩
    · rcases h.inn x y q with e | e
      · exact .inl e
      · exact .inr (by omega)
    · exact .inr (by omega)
  · intro x y hx hy hxy
    rcases (hB x).1 hx with bx | bx
    · have hxn := h.bn x bx
      rcases (hB y).1 hy with bY | rfl | rfl
      · have hyn := h.bn y bY
        rw [A.old x y hxn hyn, h.main x y bx bY hxy, f'o x y hyn]
      · rw [A.lo _ x (Nat.le_refl _) (by omega) hxn, AX x bx, (f'k x bx).1]
      · rw [A.lo _ x (by omega) (by omega) hxn, AX x bx, (f'k x bx).2]
    · have hxf : ∀ z, F' x z → z = x := by
        rcases bx with rfl | rfl
        · exact f'n
        · exact f'n1
      have hr2 : ¬ F' x y := fun q => hxy (hxf y q).symm
      have hl2 : ¬ Ahd t x y := by
        rcases (hB y).1 hy with bY | bY
        · have hyn := h.bn y bY
          rw [A.up x y (by omega) (by omega) hyn]
          exact AN y bY
        · rcases bx with rfl | rfl <;> rcases bY with rfl | rfl
          · exact absurd rfl hxy
          · exact A.n1
          · exact A.n2
          · exact absurd rfl hxy
      exact ⟨fun q => absurd q hl2, fun q => absurd q hr2⟩
  · intro u hu h0 x hx
    rw [hts] at hu
    simp only [List.mem_cons] at hu
    rcases hu with rfl | rfl | hu
    · exact absurd rfl h0
    · rcases (hB x).1 hx with bx | rfl | rfl
      · exact Dnob x bx
      · exact Dn.asym
      · exact Dn1.asym
    · obtain ⟨h1, h2, h3⟩ := hrj u hu
      rcases (hB x).1 hx with bx | bx
      · rw [A.old _ _ h3 (h.bn x bx)]
        exact h.nob u (hr u hu) h1 x bx
      · rw [A.lo x _ (by omega) (by omega) h3]
        rintro (q | q)
        · exact h2 (q ▸ hBa)
        · exact h.nob u (hr u hu) h1 a hBa q
  · intro u a1 j1 r1 e hj1 x hx
    rw [hts] at e
    match u, e with
    | [], e =>
      simp only [List.nil_append, List.cons.injEq, Prod.mk.injEq] at e
      exact absurd e.1.2.symm hj1
    | [v], e =>
      simp only [List.cons_append, List.nil_append, List.cons.injEq, Prod.mk.injEq] at e
      obtain ⟨rfl, ⟨rfl, rfl⟩, rfl⟩ := e
      rcases (hB x).1 hx with bx | rfl | rfl
      · rw [Dx x bx, f'd x bx, (f'k x bx).2]
        constructor
        · rintro (q | q)
          · exact .inl q
          · exact .inr (.inl q)
        · rintro (q | q | ⟨v, hv, q⟩)
          · exact .inl q
          · exact .inr q
          · simp only [List.mem_singleton] at hv
            subst hv
            rcases q with q | q
            · exact .inr ((f'k x bx).1.1 q)
            · exact absurd rfl q.1
      · exact ⟨fun _ => .inr (.inr ⟨(s.n, 0), by simp, .inl (f'rf _)⟩), fun _ => Dn⟩
      · exact ⟨fun _ => .inr (.inl (f'rf _)), fun _ => Dn1⟩
    | v :: v1 :: u, e =>
      simp only [List.cons_append, List.cons.injEq] at e
      obtain ⟨rfl, rfl, e⟩ := e
      have hmem : (a1, j1) ∈ r := by rw [e]; simp
      have hj1n := (hrj _ hmem).2.2
      have ha1n := (hrB _ hmem).2
      simp only at hj1n ha1n
      have hu : ∀ v ∈ u, v.1 < s.n ∧ v.2 < s.n := fun v hv => ⟨(hrB v (by rw [e]; simp [hv])).2, (hrj v (by rw [e]; simp [hv])).2.2⟩
      rcases (hB x).1 hx with bx | bx
      · rw [A.old x j1 (h.bn x bx) hj1n, h.join ((a, j) :: u) a1 j1 r1 (by rw [hst, e]; rfl) hj1 x bx, f'o x j1 hj1n, f'o x a1 ha1n]
        refine or_congr Iff.rfl (or_congr Iff.rfl ⟨?_, ?_⟩)
        · rintro ⟨v, hv, q⟩
          rcases List.mem_cons.1 hv with rfl | hv
          · rcases q with q | q
            · exact ⟨(s.n, 0), by simp, .inl ((f'k x bx).1.2 q)⟩
            · exact ⟨(s.n + 1, d), by simp, .inr ⟨d0, (f'd x bx).2 ((Dj x bx).2 q)⟩⟩
          · refine ⟨v, by simp [hv], ?_⟩
            rw [f'o x _ (hu v hv).1, f'o x _ (hu v hv).2]; exact q
        · rintro ⟨v, hv, q⟩
          simp only [List.mem_cons] at hv
          rcases hv with rfl | rfl | hv
          · rcases q with q | q
            · exact ⟨(a, j), by simp, .inl ((f'k x bx).1.1 q)⟩
            · exact absurd rfl q.1
          · rcases q with q | q
            · exact ⟨(a, j), by simp, .inl ((f'k x bx).2.1 q)⟩
            · exact ⟨(a, j), by simp, .inr ((Dj x bx).1 ((f'd x bx).1 q.2))⟩
          · refine ⟨v, by simp [hv], ?_⟩
            rw [f'o x _ (hu v hv).1, f'o x _ (hu v hv).2] at q; exact q
      · have hl2 : Ahd t x j1 := by
          rw [A.up x j1 (by omega) (by omega) hj1n]
          exact Alow u a1 j1 r1 e hj1
        rcases bx with rfl | rfl
        · exact ⟨fun _ => .inr (.inr ⟨(s.n, 0), by simp, .inl (f'rf _)⟩), fun _ => hl2⟩
        · exact ⟨fun _ => .inr (.inr ⟨(s.n + 1, d), by simp, .inl (f'rf _)⟩), fun _ => hl2⟩
  · intro u a1 j1 r1 e hj1 v hv hv0
    rw [hts] at e
    match u, e, hv with
    | [], e, hv => simp at hv
    | [w], e, hv =>
      simp only [List.cons_append, List.nil_append, List.cons.injEq] at e
      simp only [List.mem_singleton] at hv
      rw [hv, ← e.1] at hv0
      exact absurd rfl hv0
    | w :: w1 :: u, e, hv =>
      simp only [List.cons_append, List.cons.injEq] at e
      obtain ⟨rfl, rfl, e⟩ := e
      have hmem : (a1, j1) ∈ r := by rw [e]; simp
      have hj1n := (hrj _ hmem).2.2
      simp only at hj1n
      simp only [List.mem_cons] at hv
      rcases hv with rfl | rfl | hv
      · exact absurd rfl hv0
      · exact Dups u a1 j1 r1 e hj1
      · rw [A.old _ _ (hrj v (by rw [e]; simp [hv])).2.2 hj1n]
        exact h.ups ((a, j) :: u) a1 j1 r1 (by rw [hst, e]; rfl) hj1 v (by simp [hv]) hv0
/-- a child's end -/
theorem end_lds {s t : SpS} {F : Nat → Nat → Prop} {B : Nat → Prop} {a a1 j1 : Nat} {r : List (Nat × Nat)} (h : Lds s F B) (ok : s.Ok) (hst : s.st = (a, 0) :: (a1, j1) :: r) (hts : t.st = (a1, j1) :: r) (hn : t.n = s.n) (hA : ∀ x y, Ahd t x y ↔ Ahd s x y)
    {F' : Nat → Nat → Prop} {B' : Nat → Prop} (hF : ∀ z y, F' z y ↔ F z y ∨ (F z a ∧ y = j1)) (hB : ∀ y, B' y ↔ B y) : Lds t F' B' := by
  have hBa : B a := h.act (a, 0) (by rw [hst]; simp)
  have hdis := h.dis
  rw [hst] at hdis
  obtain ⟨dis1, dis2⟩ := List.pairwise_cons.1 hdis
  have hr : ∀ t ∈ (a1, j1) :: r, t ∈ s.st := fun t ht => by rw [hst]; exact List.mem_cons_of_mem _ ht
  have j0 : j1 ≠ 0 := h.low (a1, j1) (by rw [hst]; simp)
  have jB : ¬ B j1 := h.jnb (a1, j1) (hr _ (by simp)) j0
  have jn : j1 < s.n := (ok.st (a1, j1) (hr _ (by simp))).2
  have f'B : ∀ z y, B y → (F' z y ↔ F z y) := fun z y hy => by
    rw [hF]; exact ⟨fun q => q.resolve_right (fun q => jB (q.2 ▸ hy)), .inl⟩
  refine ⟨fun y hy => by rw [hn]; exact h.bn y ((hB y).1 hy), ?_, by rw [hts]; exact dis2, ?_, ?_, ?_, fun x => (hF _ _).2 (.inl (h.rf x)), ?_, ?_, ?_, ?_, ?_, ?_⟩
  · intro u hu; rw [hts] at hu; exact (hB _).2 (h.act u (hr u hu))
  · intro u hu h0 q; rw [hts] at hu; exact h.jnb u (hr u hu) h0 ((hB _).1 q)
  · intro u hu; rw [hts] at hu; exact h.low u (by rw [hst]; exact List.mem_cons_of_mem _ hu)
  · intro u hu z q
    rw [hts] at hu
    rcases (hF _ _).1 q with q | ⟨q, _⟩
    · exact h.leaf u (hr u hu) z q
    · exact absurd (h.leaf u (hr u hu) a q) (dis1 u hu)
  · intro x hx z q
    have hx0 : ¬ B x := fun k => hx ((hB x).2 k)
    rcases (hF _ _).1 q with q | ⟨q, _⟩
    · exact h.unb x hx0 z q
    · have := h.unb x hx0 a q
      exact absurd (this ▸ hBa) hx0
  · intro x y q
    rw [hn]
    rcases (hF _ _).1 q with q | ⟨_, rfl⟩
    · exact h.inn x y q
    · exact .inr jn
  · intro x y hx hy hxy
    rw [hA, h.main x y ((hB x).1 hx) ((hB y).1 hy) hxy, f'B x y ((hB y).1 hy)]
  · intro u hu h0 x hx
    rw [hts] at hu
    rw [hA]; exact h.nob u (hr u hu) h0 x ((hB x).1 hx)
  · intro u a2 j2 r2 e hj2 x hx
    rw [hts] at e
    have bx := (hB x).1 hx
    rw [hA, h.join ((a, 0) :: u) a2 j2 r2 (by rw [hst, e]; rfl) hj2 x bx]
    have ha2 : B a2 := h.act (a2, j2) (hr _ (by rw [e]; simp))
    constructor
    · rintro (q | q | ⟨v, hv, q⟩)
      · exact .inl ((hF _ _).2 (.inl q))
      · exact .inr (.inl ((hF _ _).2 (.inl q)))
      · rcases List.mem_cons.1 hv with rfl | hv
        · have qa : F x a := q.elim id (fun q => absurd rfl q.1)
          match u, e with
          | [], e =>
            simp only [List.nil_append, List.cons.injEq, Prod.mk.injEq] at e
            exact .inl ((hF _ _).2 (.inr ⟨qa, e.1.2.symm⟩))
          | w :: u, e =>
            simp only [List.cons_append, List.cons.injEq] at e
            exact .inr (.inr ⟨(a1, j1), by rw [e.1]; simp, .inr ⟨j0, (hF _ _).2 (.inr ⟨qa, rfl⟩)⟩⟩)
        · refine .inr (.inr ⟨v, hv, q.imp (fun q => (hF _ _).2 (.inl q)) (fun q => ⟨q.1, (hF _ _).2 (.inl q.2)⟩)⟩)
    · have lift : ∀ y, F' x y → F x y ∨ F x a := fun y q => ((hF _ _).1 q).imp id (·.1)
      have gota : F x a → F x j2 ∨ F x a2 ∨ ∃ t ∈ (a, 0) :: u, F x t.1 ∨ (t.2 ≠ 0 ∧ F x t.2) := fun q => .inr (.inr ⟨(a, 0), by simp, .inl q⟩)
      rintro (q | q | ⟨v, hv, q⟩)
      · rcases lift _ q with q | q
        · exact .inl q
        · exact gota q
      · rcases lift _ q with q | q
        · exact .inr (.inl q)
        · exact gota q
      · rcases q with q | ⟨q0, q⟩
        · rcases lift _ q with q | q
          · exact .inr (.inr ⟨v, by simp [hv], .inl q⟩)
          · exact gota q
        · rcases lift _ q with q | q
          · exact .inr (.inr ⟨v, by simp [hv], .inr ⟨q0, q⟩⟩)
          · exact gota q
  · intro u a2 j2 r2 e hj2 v hv hv0
    rw [hts] at e
    rw [hA]
    exact h.ups ((a, 0) :: u) a2 j2 r2 (by rw [hst, e]; rfl) hj2 v (by simp [hv]) hv0

/-- a join -/
theorem join_lds {s t : SpS} {F : Nat → Nat → Prop} {B : Nat → Prop} {a j : Nat} {r : List (Nat × Nat)} (h : Lds s F B) (ok : s.Ok) (j0 : j ≠ 0) (hst : s.st = (a, j) :: r) (hts : t.st = (j, 0) :: r) (hn : t.n = s.n) (hA : ∀ x y, Ahd t x y ↔ Ahd s x y)
    {F' : Nat → Nat → Prop} {B' : Nat → Prop} (hF : ∀ z y, F' z y ↔ F z y ∨ (F z a ∧ y = j)) (hB : ∀ y, B' y ↔ B y ∨ y = j) : Lds t F' B' := by
  have hBa : B a := h.act (a, j) (by rw [hst]; simp)
  have hdis := h.dis
  rw [hst] at hdis
  obtain ⟨dis1, dis2⟩ := List.pairwise_cons.1 hdis
  have hr : ∀ t ∈ r, t ∈ s.st := fun t ht => by rw [hst]; simp [ht]
  have jB : ¬ B j := h.jnb (a, j) (by rw [hst]; simp) j0
  have jn : j < s.n := (ok.st (a, j) (by rw [hst]; simp)).2
  have rlow : ∀ t ∈ r, t.2 ≠ 0 := fun t ht => h.low t (by rw [hst]; exact ht)
  have jj : ∀ t ∈ r, Ahd s j t.2 := fun t ht => by
    obtain ⟨u, v, e⟩ := List.append_of_mem ht
    exact h.ups ((a, j) :: u) t.1 t.2 v (by rw [hst, e]; rfl) (rlow t ht) (a, j) (by simp) j0
  have f'B : ∀ z y, y ≠ j → (F' z y ↔ F z y) := fun z y hy => by
    rw [hF]; exact ⟨fun q => q.resolve_right (fun q => hy q.2), .inl⟩
  have f'j : ∀ z, F' j z → z = j := fun z q => by
    rcases (hF _ _).1 q with q | ⟨q, _⟩
    · exact h.unb j jB z q
    · have := h.unb j jB a q
      exact absurd (this ▸ hBa) jB
  refine ⟨fun y hy => ?_, ?_, ?_, ?_, ?_, ?_, fun x => (hF _ _).2 (.inl (h.rf x)), ?_, ?_, ?_, ?_, ?_, ?_⟩
  · rw [hn]
    rcases (hB y).1 hy with q | rfl
    · exact h.bn y q
    · exact jn
  · intro u hu
    rw [hts] at hu
    rcases List.mem_cons.1 hu with rfl | hu
    · exact (hB _).2 (.inr rfl)
    · exact (hB _).2 (.inl (h.act u (hr u hu)))
  · rw [hts]
    refine List.pairwise_cons.2 ⟨fun u hu e => ?_, dis2⟩
    have h1 := h.act u (hr u hu)
    simp only at e
    exact jB (e ▸ h1)
  · intro u hu h0 q
    rw [hts] at hu
    rcases List.mem_cons.1 hu with rfl | hu
    · exact h0 rfl
    · rcases (hB _).1 q with q | q
      · exact h.jnb u (hr u hu) h0 q
      · exact (jj u hu).ne q.symm
  · intro u hu
    rw [hts] at hu
    exact rlow u hu
  · intro u hu z q
    rw [hts] at hu
    rcases List.mem_cons.1 hu with rfl | hu
    · exact f'j z q
    · rcases (hF _ _).1 q with q | ⟨q, _⟩
      · exact h.leaf u (hr u hu) z q
      · exact absurd (h.leaf u (hr u hu) a q) (dis1 u hu)
  · intro x hx z q
    have hx0 : ¬ B x := fun k => hx ((hB x).2 (.inl k))
    rcases (hF _ _).1 q with q | ⟨q, _⟩
    · exact h.unb x hx0 z q
    · have := h.unb x hx0 a q
      exact absurd (this ▸ hBa) hx0
  · intro x y q
    rw [hn]
    rcases (hF _ _).1 q with q | ⟨_, rfl⟩
    · exact h.inn x y q
    · exact .inr jn
  · intro x y hx hy hxy
    rw [hA]
    rcases (hB x).1 hx with bx | rfl
    · rcases (hB y).1 hy with bY | rfl
      · rw [h.main x y bx bY hxy, f'B x y (fun e => jB (e ▸ bY))]
      · rw [h.join [] a y r (by rw [hst]; rfl) j0 x bx, hF]
        constructor
        · rintro (q | q | ⟨v, hv, _⟩)
          · exact .inl q
          · exact .inr ⟨q, rfl⟩
          · simp at hv
        · rintro (q | q)
          · exact .inl q
          · exact .inr (.inl q.1)
    · have hr2 : ¬ F' x y := fun q => hxy (f'j y q).symm
      have hl2 : ¬ Ahd s x y := by
        rcases (hB y).1 hy with bY | rfl
        · exact h.nob (a, x) (by rw [hst]; simp) j0 y bY
        · exact absurd rfl hxy
      exact ⟨fun q => absurd q hl2, fun q => absurd q hr2⟩
  · intro u hu h0 x hx
    rw [hts] at hu
    rw [hA]
    rcases List.mem_cons.1 hu with rfl | hu2
    · exact absurd rfl h0
    · rcases (hB x).1 hx with bx | rfl
      · exact h.nob u (hr u hu2) h0 x bx
      · exact (jj u hu2).asym
  · intro u a2 j2 r2 e hj2 x hx
    rw [hts] at e
    match u, e with
    | [], e =>
      simp only [List.nil_append, List.cons.injEq, Prod.mk.injEq] at e
      exact absurd e.1.2.symm hj2
    | w :: u, e =>
      simp only [List.cons_append, List.cons.injEq] at e
      obtain ⟨rfl, e⟩ := e
      have hm2 : (a2, j2) ∈ r := by rw [e]; simp
      have ha2 : B a2 := h.act (a2, j2) (hr _ hm2)
      have ne2 : a2 ≠ j := fun k => jB (k ▸ ha2)
      have nej : j2 ≠ j := (jj _ hm2).ne.symm
      have hu : ∀ v ∈ u, v.1 ≠ j ∧ v.2 ≠ j := fun v hv => by
        have hvr : v ∈ r := by rw [e]; simp [hv]
        exact ⟨fun k => jB (k ▸ h.act v (hr v hvr)), (jj v hvr).ne.symm⟩
      rw [hA]
      rcases (hB x).1 hx with bx | rfl
      · rw [h.join ((a, j) :: u) a2 j2 r2 (by rw [hst, e]; rfl) hj2 x bx, f'B x j2 nej, f'B x a2 ne2]
        refine or_congr Iff.rfl (or_congr Iff.rfl ⟨?_, ?_⟩)
        · rintro ⟨v, hv, q⟩
          rcases List.mem_cons.1 hv with rfl | hv
          · refine ⟨(j, 0), by simp, .inl ((hF _ _).2 ?_)⟩
            rcases q with q | q
            · exact .inr ⟨q, rfl⟩
            · exact .inl q.2
          · refine ⟨v, by simp [hv], ?_⟩
            rw [f'B x _ (hu v hv).1, f'B x _ (hu v hv).2]; exact q
        · rintro ⟨v, hv, q⟩
          rcases List.mem_cons.1 hv with rfl | hv
          · rcases q with q | q
            · rcases (hF _ _).1 q with q | q
              · exact ⟨(a, j), by simp, .inr ⟨j0, q⟩⟩
              · exact ⟨(a, j), by simp, .inl q.1⟩
            · exact absurd rfl q.1
          · refine ⟨v, by simp [hv], ?_⟩
            rw [f'B x _ (hu v hv).1, f'B x _ (hu v hv).2] at q; exact q
      · exact ⟨fun _ => .inr (.inr ⟨(x, 0), by simp, .inl ((hF _ _).2 (.inl (h.rf x)))⟩), fun _ => jj _ hm2⟩
  · intro u a2 j2 r2 e hj2 v hv hv0
    rw [hts] at e
    rw [hA]
    match u, e, hv with
    | [], e, hv => simp at hv
    | w :: u, e, hv =>
      simp only [List.cons_append, List.cons.injEq] at e
      obtain ⟨rfl, e⟩ := e
      rcases List.mem_cons.1 hv with rfl | hv
      · exact absurd rfl hv0
      · exact h.ups ((a, j) :: u) a2 j2 r2 (by rw [hst, e]; rfl) hj2 v (by simp [hv]) hv0
/-- what a split leads to -/
def Tg (f : Nat → Prop) (x : SplV) : Prop := (x.kind = 1 → f x.b.toNat ∧ f x.c.toNat) ∧ (x.kind ≠ 1 → f x.d.toNat)
theorem step_lds {s t : SpS} {F : Nat → Nat → Prop} {B : Nat → Prop} {x : SplV} (h : Lds s F B) (ok : s.Ok) (hn : s.n + 3 ≤ 1000) (he : spStep s x = some t) :
    Lds t (fun z => ledP (F z) x) (bgP B x) ∧ B x.a.toNat ∧ (∀ z y, B y → (ledP (F z) x y ↔ F z y)) ∧ (∀ f : Nat → Prop, f x.a.toNat → Tg (ledP f x) x) ∧ x.a.toNat < t.n ∧ x.b.toNat < t.n ∧ x.c.toNat < t.n ∧ x.d.toNat < t.n ∧ 0 ≤ x.a ∧ 0 ≤ x.b ∧ 0 ≤ x.c ∧ 0 ≤ x.d := by
  have hok2 := step_ok ok hn he
  unfold spStep at he
  obtain ⟨n, st, E, H⟩ := s
  have h5 := ok.st
  dsimp only at he h5 hn
  match st, he, h, ok, h5, hok2 with
  | [], he, _, _, _, _ => cases he
  | (a, j) :: r, he, h, ok, h5, hok2 =>
    dsimp only at he
    have ha := (h5 (a, j) (by simp)).1
    have hj := (h5 (a, j) (by simp)).2
    dsimp only at ha hj
    have hBa : B a := h.act (a, j) (by simp)
    by_cases c0 : x.a ≠ a
    · rw [if_pos c0] at he; cases he
    rw [if_neg c0] at he
    have hxa : x.a.toNat = a := by have : x.a = a := Classical.not_not.1 c0; omega
    have hxa0 : 0 ≤ x.a := by have : x.a = a := Classical.not_not.1 c0; omega
    have nB : ∀ k, n ≤ k → ¬ B k := fun k hk q => by have := h.bn k q; simp only at this; omega
    by_cases c1 : x.kind = 1
    · rw [if_pos c1] at he
      by_cases c2 : x = ⟨1, a, n, (n + 1 : Nat), ((if j = 0 then n + 2 else j : Nat) : Int)⟩
      · rw [if_pos c2] at he
        injection he with he
        have hF : ∀ (f : Nat → Prop) y, ledP f x y ↔ f y ∨ (f a ∧ (y = n ∨ y = n + 1)) := fun f y => by
          unfold ledP
          rw [hxa]
          refine or_congr Iff.rfl (and_congr Iff.rfl ?_)
          rw [c2]
          constructor
          · rintro (⟨_, q⟩ | ⟨q, _⟩)
            · simp only at q; omega
            · exact absurd rfl q
          · intro q; left; refine ⟨rfl, ?_⟩; simp only; omega
        have hB : ∀ y, bgP B x y ↔ B y ∨ y = n ∨ y = n + 1 := fun y => by
          unfold bgP
          rw [c2]
          refine or_congr Iff.rfl ?_
          constructor
          · rintro (⟨_, q⟩ | ⟨q, _⟩)
            · simp only at q; omega
            · cases q
          · intro q; left; refine ⟨rfl, ?_⟩; simp only; omega
        have hBk : ∀ z y, B y → (ledP (F z) x y ↔ F z y) := fun z y hy => by
          rw [hF]
          exact ⟨fun q => q.resolve_right (fun q => by rcases q.2 with e | e <;> exact nB y (by omega) hy), .inl⟩
        have hT : ∀ f : Nat → Prop, f x.a.toNat → Tg (ledP f x) x := fun f hf => by
          rw [hxa] at hf
          refine ⟨fun _ => ⟨(hF f _).2 (.inr ⟨hf, .inl (by rw [c2]; simp)⟩), (hF f _).2 (.inr ⟨hf, .inr (by rw [c2]; simp)⟩)⟩, fun q => absurd c1 q⟩
        by_cases c3 : j = 0
        · rw [if_pos c3] at he
          subst he
          obtain ⟨A, A2⟩ := fork_fka ok ha hn true ((n, 0) :: (n + 1, n + 2) :: r) (n + 3) rfl
          have Dn := (A2 rfl).1
          have Dn1 := (A2 rfl).2
          have hno : ∀ z, B z → ¬ F z (n + 2) := fun z hz q => by
            rcases h.inn z _ q with e | e
            · exact nB (n + 2) (by omega) (by rw [e]; exact hz)
            · simp only at e; omega
          have AX : ∀ z, B z → (z = a ∨ Ahd ⟨n, (a, j) :: r, E, H⟩ z a ↔ F z a) := fun z hz => by
            by_cases e : z = a
            · subst e; exact ⟨fun _ => h.rf _, fun _ => .inl rfl⟩
            · rw [h.main z a hz hBa e]
              exact ⟨fun q => q.resolve_left e, .inr⟩
          refine ⟨?_, by rw [hxa]; exact hBa, hBk, hT, by rw [hxa]; show a < n + 3; omega, by rw [c2]; show (n : Int).toNat < n + 3; omega, by rw [c2]; show ((n + 1 : Nat) : Int).toNat < n + 3; omega, by rw [c2, c3]; show ((n + 2 : Nat) : Int).toNat < n + 3; omega, hxa0, by rw [c2]; show 0 ≤ (n : Int); omega, by rw [c2]; show 0 ≤ ((n + 1 : Nat) : Int); omega, by rw [c2]; show 0 ≤ ((if j = 0 then n + 2 else j : Nat) : Int); omega⟩
          refine fork_lds h ok rfl rfl (by show n + 2 ≤ n + 3; omega) A (by omega) (nB (n + 2) (by omega)) (fun z hz => ?_) Dn Dn1 (fun z hz q => ?_) (fun z hz => ⟨fun q => absurd q (hno z hz), fun q => absurd c3 q.1⟩) (fun u a1 j1 r1 e hj1 => ?_) (fun z y => hF (F z) y) hB
          · rw [A.lo (n + 2) z (by show n ≤ n + 2; omega) (by show n + 2 < n + 3; omega) (h.bn z hz), AX z hz]
            exact ⟨.inr, fun q => q.resolve_left (hno z hz)⟩
          · rw [A.up (n + 2) z (by show n ≤ n + 2; omega) (by show n + 2 < n + 3; omega) (h.bn z hz)] at q
            exact q.ne (h.leaf (a, j) (by simp) z ((h.main a z hBa hz q.ne).1 q)).symm
          · have hj1n : j1 < n := (h5 (a1, j1) (by rw [e]; simp)).2
            rw [A.up (n + 2) j1 (by show n ≤ n + 2; omega) (by show n + 2 < n + 3; omega) hj1n]
            exact (h.join ((a, j) :: u) a1 j1 r1 (by rw [e]; rfl) hj1 a hBa).2 (.inr (.inr ⟨(a, j), by simp, .inl (h.rf a)⟩))
        · rw [if_neg c3] at he
          subst he
          obtain ⟨A, _⟩ := fork_fka ok ha hn false ((n, 0) :: (n + 1, j) :: r) (n + 2) rfl
          have jB : ¬ B j := h.jnb (a, j) (by simp) c3
          have aj : Ahd ⟨n, (a, j) :: r, E, H⟩ a j := (h.join [] a j r rfl c3 a hBa).2 (.inr (.inl (h.rf a)))
          refine ⟨?_, by rw [hxa]; exact hBa, hBk, hT, by rw [hxa]; show a < n + 2; omega, by rw [c2]; show (n : Int).toNat < n + 2; omega, by rw [c2]; show ((n + 1 : Nat) : Int).toNat < n + 2; omega, by rw [c2, if_neg c3]; show (j : Int).toNat < n + 2; omega, hxa0, by rw [c2]; show 0 ≤ (n : Int); omega, by rw [c2]; show 0 ≤ ((n + 1 : Nat) : Int); omega, by rw [c2]; show 0 ≤ ((if j = 0 then n + 2 else j : Nat) : Int); omega⟩
          refine fork_lds h ok rfl rfl (Nat.le_refl _) A c3 jB (fun z hz => ?_) ?_ ?_ (fun z hz => ?_) (fun z hz => ⟨fun q => ⟨c3, q⟩, fun q => q.2⟩) (fun u a1 j1 r1 e hj1 => ?_) (fun z y => hF (F z) y) hB
          · rw [A.old z j (h.bn z hz) hj, h.join [] a j r rfl c3 z hz]
            constructor
            · rintro (q | q | ⟨v, hv, _⟩)
              · exact .inl q
              · exact .inr q
              · simp at hv
            · rintro (q | q)
              · exact .inl q
              · exact .inr (.inl q)
          · rw [A.up n j (Nat.le_refl _) (by show n < n + 2; omega) hj]; exact aj
          · rw [A.up (n + 1) j (by show n ≤ n + 1; omega) (by show n + 1 < n + 2; omega) hj]; exact aj
          · rw [A.old j z hj (h.bn z hz)]
            exact h.nob (a, j) (by simp) c3 z hz
          · have hj1n : j1 < n := (h5 (a1, j1) (by rw [e]; simp)).2
            rw [A.old j j1 hj hj1n]
            exact h.ups ((a, j) :: u) a1 j1 r1 (by rw [e]; rfl) hj1 (a, j) (by simp) c3
      · rw [if_neg c2] at he; cases he
    rw [if_neg c1] at he
    by_cases c2 : x.kind = 2
    · rw [if_pos c2] at he
      match r, he, h, ok, h5, hok2 with
      | [], he, _, _, _, _ => cases he
      | (a1, j1) :: r1, he, h, ok, h5, hok2 =>
        dsimp only at he
        split at he
        · rename_i c4
          injection he with he
          subst he
          obtain ⟨rfl, hx⟩ := c4
          have hF : ∀ (f : Nat → Prop) y, ledP f x y ↔ f y ∨ (f a ∧ y = j1) := fun f y => by
            unfold ledP
            rw [hxa]
            refine or_congr Iff.rfl (and_congr Iff.rfl ?_)
            rw [hx]
            constructor
            · rintro (⟨q, _⟩ | ⟨_, q⟩)
              · cases q
              · simp only at q; omega
            · intro q; right; refine ⟨by simp, ?_⟩; simp only; omega
          have hB : ∀ y, bgP B x y ↔ B y := fun y => by
            unfold bgP
            rw [hx]
            constructor
            · rintro (q | ⟨q, _⟩ | ⟨q, _⟩)
              · exact q
              · cases q
              · cases q
            · exact .inl
          have j0 : j1 ≠ 0 := h.low (a1, j1) (by simp)
          have jB : ¬ B j1 := h.jnb (a1, j1) (by simp) j0
          have hj1 := (h5 (a1, j1) (by simp)).2
          dsimp only at hj1
          refine ⟨end_lds (t := ⟨n, (a1, j1) :: r1, E, H⟩) h ok rfl rfl rfl (fun _ _ => Iff.rfl) (fun z y => hF (F z) y) hB, by rw [hxa]; exact hBa, fun z y hy => ?_, fun f hf => ⟨fun q => absurd q c1, fun _ => (hF f _).2 (.inr ⟨by rwa [hxa] at hf, by rw [hx]; simp⟩)⟩, by rw [hxa]; exact ha, by rw [hx]; exact (show (0 : Int).toNat < n by simp; omega), by rw [hx]; exact (show (0 : Int).toNat < n by simp; omega), by rw [hx]; show (j1 : Int).toNat < n; omega, hxa0, by rw [hx]; exact Int.le_refl 0, by rw [hx]; exact Int.le_refl 0, by rw [hx]; show 0 ≤ (j1 : Int); omega⟩
          rw [hF]
          exact ⟨fun q => q.resolve_right (fun q => jB (q.2 ▸ hy)), .inl⟩
        · cases he
    rw [if_neg c2] at he
    by_cases c3 : x.kind = 3
    · rw [if_pos c3] at he
      split at he
      · rename_i c4
        injection he with he
        subst he
        obtain ⟨j0, hx⟩ := c4
        have hF : ∀ (f : Nat → Prop) y, ledP f x y ↔ f y ∨ (f a ∧ y = j) := fun f y => by
          unfold ledP
          rw [hxa]
          refine or_congr Iff.rfl (and_congr Iff.rfl ?_)
          rw [hx]
          constructor
          · rintro (⟨q, _⟩ | ⟨_, q⟩)
            · cases q
            · simp only at q; omega
          · intro q; right; refine ⟨by simp, ?_⟩; simp only; omega
        have hB : ∀ y, bgP B x y ↔ B y ∨ y = j := fun y => by
          unfold bgP
          rw [hx]
          refine or_congr Iff.rfl ?_
          constructor
          · rintro (⟨q, _⟩ | ⟨_, q⟩)
            · cases q
            · simp only at q; omega
          · intro q; right; refine ⟨rfl, ?_⟩; simp only; omega
        have jB : ¬ B j := h.jnb (a, j) (by simp) j0
        refine ⟨join_lds (t := ⟨n, (j, 0) :: r, E, H⟩) h ok j0 rfl rfl rfl (fun _ _ => Iff.rfl) (fun z y => hF (F z) y) hB, by rw [hxa]; exact hBa, fun z y hy => ?_, fun f hf => ⟨fun q => absurd q c1, fun _ => (hF f _).2 (.inr ⟨by rwa [hxa] at hf, by rw [hx]; simp⟩)⟩, by rw [hxa]; exact ha, by rw [hx]; exact (show (0 : Int).toNat < n by simp; omega), by rw [hx]; exact (show (0 : Int).toNat < n by simp; omega), by rw [hx]; show (j : Int).toNat < n; omega, hxa0, by rw [hx]; exact Int.le_refl 0, by rw [hx]; exact Int.le_refl 0, by rw [hx]; show 0 ≤ (j : Int); omega⟩
        rw [hF]
        exact ⟨fun q => q.resolve_right (fun q => jB (q.2 ▸ hy)), .inl⟩
      · cases he
    rw [if_neg c3] at he
    cases he

def ledR (f : Nat → Prop) (l : List SplV) : Nat → Prop := l.foldl ledP f
def bgR (B : Nat → Prop) (l : List SplV) : Nat → Prop := l.foldl bgP B
/-- splits in their order: nothing of those ahead leads on by those behind -/
theorem run_lds : ∀ (l : List SplV) {s t : SpS} {F : Nat → Nat → Prop} {B : Nat → Prop} (past : List SplV), Lds s F B → s.Ok → s.n + 3 * l.length ≤ 1000 → spRun s l = some t →
    (∀ x ∈ past, B x.a.toNat ∧ ∀ z, F z x.a.toNat → Tg (F z) x) → (∀ x ∈ past, x.a.toNat < s.n ∧ x.b.toNat < s.n ∧ x.c.toNat < s.n ∧ x.d.toNat < s.n ∧ 0 ≤ x.a ∧ 0 ≤ x.b ∧ 0 ≤ x.c ∧ 0 ≤ x.d) →
    Lds t (fun z => ledR (F z) l) (bgR B l) ∧ (∀ x ∈ past ++ l, ∀ z, ledR (F z) l x.a.toNat → Tg (ledR (F z) l) x) ∧ (∀ x ∈ past ++ l, x.a.toNat < t.n ∧ x.b.toNat < t.n ∧ x.c.toNat < t.n ∧ x.d.toNat < t.n ∧ 0 ≤ x.a ∧ 0 ≤ x.b ∧ 0 ≤ x.c ∧ 0 ≤ x.d)
  | [], s, t, F, B, past, h, ok, hn, he, hp, hq => by
    injection he with he
    subst he
    rw [List.append_nil]
    exact ⟨h, fun x hx z hz => (hp x hx).2 z hz, hq⟩
  | x :: l, s, t, F, B, past, h, ok, hn, he, hp, hq => by
    simp only [List.length_cons] at hn
    unfold spRun at he
    cases hs : spStep s x with
    | none => rw [hs] at he; cases he
    | some u =>
      rw [hs] at he
      obtain ⟨h1, h2, h3, h4, k⟩ := step_lds h ok (by omega) hs
      obtain ⟨u1, _, _, u4, u5⟩ := step_ok ok (by omega) hs
      have mono : ∀ (f : Nat → Prop) y, f y → ledP f x y := fun f y q => .inl q
      have tgm : ∀ (f g : Nat → Prop) y, (∀ z, f z → g z) → Tg f y → Tg g y := fun f g y q w => ⟨fun e => ⟨q _ (w.1 e).1, q _ (w.1 e).2⟩, fun e => q _ (w.2 e)⟩
      have hp2 : ∀ y ∈ past ++ [x], bgP B x y.a.toNat ∧ ∀ z, ledP (F z) x y.a.toNat → Tg (ledP (F z) x) y := fun y hy => by
        rcases List.mem_append.1 hy with hy | hy
        · obtain ⟨b1, b2⟩ := hp y hy
          exact ⟨.inl b1, fun z q => tgm _ _ y (mono (F z)) (b2 z ((h3 z _ b1).1 q))⟩
        · rw [List.mem_singleton] at hy
          subst hy
          exact ⟨.inl h2, fun z q => h4 (F z) ((h3 z _ h2).1 q)⟩
      have hq2 : ∀ y ∈ past ++ [x], y.a.toNat < u.n ∧ y.b.toNat < u.n ∧ y.c.toNat < u.n ∧ y.d.toNat < u.n ∧ 0 ≤ y.a ∧ 0 ≤ y.b ∧ 0 ≤ y.c ∧ 0 ≤ y.d := fun y hy => by
        rcases List.mem_append.1 hy with hy | hy
        · have := hq y hy; omega
        · rw [List.mem_singleton] at hy
          subst hy; exact k
      have := run_lds l (past ++ [x]) h1 u1 (by omega) he hp2 hq2
      rw [List.append_assoc] at this
      exact this
end Go.Proofs.Ytjpimaiogdckpaa
