/-
  LAYOUT: no cell is in two places, each is in one.
-/
import Derived.Test.YtbaeckehchpfaaaRows
import Derived.ProofKit
import Derived.Test.YtbaeckehchpfaaaLayAp
namespace Go.Proofs.Ytbaeckehchpfaaa

theorem tup (k : Nat) {a a' b b' i i' : Int} (h1 : a = a') (h2 : b = b') (h3 : i = i') : (k, a, b, i) = (k, a', b', i') := by rw [h1, h2, h3]

set_option maxHeartbeats 4000000 in
theorem own_of (q : LP) (h : q.Ok) (k : Nat) (a b i : Int) (hv : q.Vis k a b i) : q.own (q.val a b k + i) = (k, a, b, i) ∧ 4 ≤ q.val a b k + i ∧ q.val a b k + i < q.f24 := by
  obtain ⟨hs, hn, hb, hsl, ht, hce, hma, hst, hch⟩ := h
  have hR := rings_le q.t
  have hC : 4 ≤ q.C ∧ q.C ≤ 124 := by
    unfold LP.C
    rcases (show ringsP q.t = 1 ∨ ringsP q.t = 2 ∨ ringsP q.t = 3 ∨ ringsP q.t = 4 ∨ ringsP q.t = 5 by omega) with h | h | h | h | h <;> rw [h] <;> decide
  have e18 : q.f18 = 4 + 8 * q.s + q.s * q.C := rfl
  have e19 : q.f19 = q.f18 + 4 * q.t := rfl
  have e20 : q.f20 = q.f19 + q.ce := rfl
  have e21 : q.f21 = q.f20 + q.ma * (2 + q.bu) := rfl
  have e22 : q.f22 = q.f21 + q.st * (1 + q.sl) := rfl
  have e23 : q.f23 = q.f22 + 2 * q.ch := rfl
  have e24 : q.f24 = q.f23 + 8 * q.n := rfl
  have p3 : 0 ≤ q.s * q.C := Int.mul_nonneg (by omega) (by omega)
  have p1 : 0 ≤ q.ma * (2 + q.bu) := Int.mul_nonneg (by omega) (by omega)
  have p2 : 0 ≤ q.st * (1 + q.sl) := Int.mul_nonneg (by omega) (by omega)
  obtain ⟨hk, his, hone, h0, hi⟩ := hv
  rcases (show k = 0 ∨ k = 1 ∨ k = 2 ∨ k = 3 ∨ k = 4 ∨ k = 5 ∨ k = 6 ∨ k = 7 ∨ k = 8 ∨ k = 9 ∨ k = 10 ∨ k = 11 ∨ k = 12 ∨ k = 13 by omega) with rfl | rfl | rfl | rfl | rfl | rfl | rfl | rfl | rfl | rfl | rfl | rfl | rfl | rfl
  · have hi0 : i = 0 := by unfold manyK at hi; rw [if_neg (by omega)] at hi; omega
    subst hi0
    have hb0 : b = 0 := hone rfl
    subst hb0
    have g := atL_ge 4 a 0 q.s 1 0 1 his
    have hv : q.val a 0 0 = 4 + (a - 0) * 1 + 0 := atL_in 4 a 0 q.s 1 0 1 g
    obtain ⟨x, hx⟩ : ∃ x, q.val a 0 0 + 0 = x := ⟨_, rfl⟩
    rw [hx]
    rw [hv] at hx
    have gr := group (a - 0) q.s 1 0 (by omega) ⟨by omega, by omega⟩ ⟨by omega, by omega⟩
    have hy : x - 4 = (a - 0) * 1 + 0 := by omega
    refine ⟨?_, by omega, by omega⟩
    unfold LP.own
    rw [if_pos (by omega)]
    exact tup _ (by omega) (by omega) (by omega)
  · have hi0 : i = 0 := by unfold manyK at hi; rw [if_neg (by omega)] at hi; omega
    subst hi0
    have hb0 : b = 0 := hone rfl
    subst hb0
    have g := atL_ge (4 + q.s) a 0 q.s 1 0 1 his
    have hv : q.val a 0 1 = (4 + q.s) + (a - 0) * 1 + 0 := atL_in (4 + q.s) a 0 q.s 1 0 1 g
    obtain ⟨x, hx⟩ : ∃ x, q.val a 0 1 + 0 = x := ⟨_, rfl⟩
    rw [hx]
    rw [hv] at hx
    have gr := group (a - 0) q.s 1 0 (by omega) ⟨by omega, by omega⟩ ⟨by omega, by omega⟩
    have hy : x - (4 + q.s) = (a - 0) * 1 + 0 := by omega
    refine ⟨?_, by omega, by omega⟩
    unfold LP.own
    rw [if_neg (by omega), if_pos (by omega)]
    exact tup _ (by omega) (by omega) (by omega)
  · have hi0 : i = 0 := by unfold manyK at hi; rw [if_neg (by omega)] at hi; omega
    subst hi0
    have g := atL_ge (4 + 2 * q.s) a 0 q.s 3 b 3 his
    have hv : q.val a b 2 = (4 + 2 * q.s) + (a - 0) * 3 + b := atL_in (4 + 2 * q.s) a 0 q.s 3 b 3 g
    obtain ⟨x, hx⟩ : ∃ x, q.val a b 2 + 0 = x := ⟨_, rfl⟩
    rw [hx]
    rw [hv] at hx
    have gr := group (a - 0) q.s 3 b (by omega) ⟨by omega, by omega⟩ ⟨by omega, by omega⟩
    have hy : x - (4 + 2 * q.s) = (a - 0) * 3 + b := by omega
    refine ⟨?_, by omega, by omega⟩
    unfold LP.own
    rw [if_neg (by omega), if_neg (by omega), if_pos (by omega)]
    rw [hy, gr.1, gr.2.1]
    exact tup _ (by omega) (by omega) (by omega)
  · have hi0 : i = 0 := by unfold manyK at hi; rw [if_neg (by omega)] at hi; omega
    subst hi0
    have g := atL_ge (4 + 5 * q.s) a 0 q.s 3 b 3 his
    have hv : q.val a b 3 = (4 + 5 * q.s) + (a - 0) * 3 + b := atL_in (4 + 5 * q.s) a 0 q.s 3 b 3 g
    obtain ⟨x, hx⟩ : ∃ x, q.val a b 3 + 0 = x := ⟨_, rfl⟩
    rw [hx]
    rw [hv] at hx
    have gr := group (a - 0) q.s 3 b (by omega) ⟨by omega, by omega⟩ ⟨by omega, by omega⟩
    have hy : x - (4 + 5 * q.s) = (a - 0) * 3 + b := by omega
    refine ⟨?_, by omega, by omega⟩
    unfold LP.own
    rw [if_neg (by omega), if_neg (by omega), if_neg (by omega), if_pos (by omega)]
    rw [hy, gr.1, gr.2.1]
    exact tup _ (by omega) (by omega) (by omega)
  · have g : 0 ≤ a ∧ a < q.s ∧ 0 ≤ b ∧ b < ringsP q.t := by
      refine Classical.byContradiction fun hno => ?_
      have h1 : q.val a b 4 = -1 := ringV_out q.s q.t (4 + 8 * q.s) a b (by omega)
      omega
    have hv : q.val a b 4 = 4 + 8 * q.s + a * q.C + cellsP b := ringV_in q.s q.t (4 + 8 * q.s) a b g.1 g.2.1 g.2.2.1 g.2.2.2
    have hi2 : i < sizeP b := hi
    have hr := rr_of b i (ringsP q.t) g.2.2.1 g.2.2.2 hR.2 ⟨h0, hi2⟩
    have hcb := cells_le b g.2.2.1
    obtain ⟨x, hx⟩ : ∃ x, q.val a b 4 + i = x := ⟨_, rfl⟩
    rw [hx]
    rw [hv] at hx
    have gr := group a q.s q.C (cellsP b + i) (by omega) ⟨by omega, by omega⟩ ⟨by omega, hr.2⟩
    have hy : x - (4 + 8 * q.s) = a * q.C + (cellsP b + i) := by omega
    refine ⟨?_, by omega, by omega⟩
    unfold LP.own
    rw [if_neg (by omega), if_neg (by omega), if_neg (by omega), if_neg (by omega), if_pos (by omega)]
    rw [hy, gr.1, gr.2.1, hr.1]
    exact tup _ (by omega) (by omega) (by omega)
  · have hi0 : i = 0 := by unfold manyK at hi; rw [if_neg (by omega)] at hi; omega
    subst hi0
    have g := atL_ge q.f18 a 1 q.t 4 b 4 his
    have hv : q.val a b 5 = q.f18 + (a - 1) * 4 + b := atL_in q.f18 a 1 q.t 4 b 4 g
    obtain ⟨x, hx⟩ : ∃ x, q.val a b 5 + 0 = x := ⟨_, rfl⟩
    rw [hx]
    rw [hv] at hx
    have gr := group (a - 1) q.t 4 b (by omega) ⟨by omega, by omega⟩ ⟨by omega, by omega⟩
    have hy : x - q.f18 = (a - 1) * 4 + b := by omega
    refine ⟨?_, by omega, by omega⟩
    unfold LP.own
    rw [if_neg (by omega), if_neg (by omega), if_neg (by omega), if_neg (by omega), if_neg (by omega), if_pos (by omega)]
    rw [hy, gr.1, gr.2.1]
    exact tup _ (by omega) (by omega) (by omega)
  · have hi0 : i = 0 := by unfold manyK at hi; rw [if_neg (by omega)] at hi; omega
    subst hi0
    have hb0 : b = 0 := hone rfl
    subst hb0
    have g := atL_ge q.f19 a 0 q.ce 1 0 1 his
    have hv : q.val a 0 6 = q.f19 + (a - 0) * 1 + 0 := atL_in q.f19 a 0 q.ce 1 0 1 g
    obtain ⟨x, hx⟩ : ∃ x, q.val a 0 6 + 0 = x := ⟨_, rfl⟩
    rw [hx]
    rw [hv] at hx
    have gr := group (a - 0) q.ce 1 0 (by omega) ⟨by omega, by omega⟩ ⟨by omega, by omega⟩
    have hy : x - q.f19 = (a - 0) * 1 + 0 := by omega
    refine ⟨?_, by omega, by omega⟩
    unfold LP.own
    rw [if_neg (by omega), if_neg (by omega), if_neg (by omega), if_neg (by omega), if_neg (by omega), if_neg (by omega), if_pos (by omega)]
    exact tup _ (by omega) (by omega) (by omega)
  · have hi0 : i = 0 := by unfold manyK at hi; rw [if_neg (by omega)] at hi; omega
    subst hi0
    have g := atL_ge q.f20 a 0 q.ma (2 + q.bu) b 2 his
    have hv : q.val a b 7 = q.f20 + (a - 0) * (2 + q.bu) + b := atL_in q.f20 a 0 q.ma (2 + q.bu) b 2 g
    obtain ⟨x, hx⟩ : ∃ x, q.val a b 7 + 0 = x := ⟨_, rfl⟩
    rw [hx]
    rw [hv] at hx
    have gr := group (a - 0) q.ma (2 + q.bu) b (by omega) ⟨by omega, by omega⟩ ⟨by omega, by omega⟩
    have hy : x - q.f20 = (a - 0) * (2 + q.bu) + b := by omega
    refine ⟨?_, by omega, by omega⟩
    unfold LP.own
    rw [if_neg (by omega), if_neg (by omega), if_neg (by omega), if_neg (by omega), if_neg (by omega), if_neg (by omega), if_neg (by omega), if_pos (by omega)]
    rw [hy, gr.1, gr.2.1, if_pos (by omega)]
    exact tup _ (by omega) (by omega) (by omega)
  · have hi0 : i = 0 := by unfold manyK at hi; rw [if_neg (by omega)] at hi; omega
    subst hi0
    have g := atL_ge (q.f20 + 2) a 0 q.ma (2 + q.bu) b q.bu his
    have hv : q.val a b 8 = (q.f20 + 2) + (a - 0) * (2 + q.bu) + b := atL_in (q.f20 + 2) a 0 q.ma (2 + q.bu) b q.bu g
    obtain ⟨x, hx⟩ : ∃ x, q.val a b 8 + 0 = x := ⟨_, rfl⟩
    rw [hx]
    rw [hv] at hx
    have gr := group (a - 0) q.ma (2 + q.bu) (2 + b) (by omega) ⟨by omega, by omega⟩ ⟨by omega, by omega⟩
    have hy : x - q.f20 = (a - 0) * (2 + q.bu) + (2 + b) := by omega
    refine ⟨?_, by omega, by omega⟩
    unfold LP.own
    rw [if_neg (by omega), if_neg (by omega), if_neg (by omega), if_neg (by omega), if_neg (by omega), if_neg (by omega), if_neg (by omega), if_pos (by omega)]
    rw [hy, gr.1, gr.2.1, if_neg (by omega)]
    exact tup _ (by omega) (by omega) (by omega)
  · have hi0 : i = 0 := by unfold manyK at hi; rw [if_neg (by omega)] at hi; omega
    subst hi0
    have hb0 : b = 0 := hone rfl
    subst hb0
    have g := atL_ge q.f21 a 0 q.st (1 + q.sl) 0 1 his
    have hv : q.val a 0 9 = q.f21 + (a - 0) * (1 + q.sl) + 0 := atL_in q.f21 a 0 q.st (1 + q.sl) 0 1 g
    obtain ⟨x, hx⟩ : ∃ x, q.val a 0 9 + 0 = x := ⟨_, rfl⟩
    rw [hx]
    rw [hv] at hx
    have gr := group (a - 0) q.st (1 + q.sl) 0 (by omega) ⟨by omega, by omega⟩ ⟨by omega, by omega⟩
    have hy : x - q.f21 = (a - 0) * (1 + q.sl) + 0 := by omega
    refine ⟨?_, by omega, by omega⟩
    unfold LP.own
    rw [if_neg (by omega), if_neg (by omega), if_neg (by omega), if_neg (by omega), if_neg (by omega), if_neg (by omega), if_neg (by omega), if_neg (by omega), if_pos (by omega)]
    rw [hy, gr.1, gr.2.1, if_pos (by omega)]
    exact tup _ (by omega) (by omega) (by omega)
  · have hi0 : i = 0 := by unfold manyK at hi; rw [if_neg (by omega)] at hi; omega
    subst hi0
    have g := atL_ge (q.f21 + 1) a 0 q.st (1 + q.sl) b q.sl his
    have hv : q.val a b 10 = (q.f21 + 1) + (a - 0) * (1 + q.sl) + b := atL_in (q.f21 + 1) a 0 q.st (1 + q.sl) b q.sl g
    obtain ⟨x, hx⟩ : ∃ x, q.val a b 10 + 0 = x := ⟨_, rfl⟩
    rw [hx]
    rw [hv] at hx
    have gr := group (a - 0) q.st (1 + q.sl) (1 + b) (by omega) ⟨by omega, by omega⟩ ⟨by omega, by omega⟩
    have hy : x - q.f21 = (a - 0) * (1 + q.sl) + (1 + b) := by omega
    refine ⟨?_, by omega, by omega⟩
    unfold LP.own
    rw [if_neg (by omega), if_neg (by omega), if_neg (by omega), if_neg (by omega), if_neg (by omega), if_neg (by omega), if_neg (by omega), if_neg (by omega), if_pos (by omega)]
    rw [hy, gr.1, gr.2.1, if_neg (by omega)]
    exact tup _ (by omega) (by omega) (by omega)
  · have hi0 : i = 0 := by unfold manyK at hi; rw [if_neg (by omega)] at hi; omega
    subst hi0
    have hb0 : b = 0 := hone rfl
    subst hb0
    have g := atL_ge q.f22 a 0 q.ch 2 0 1 his
    have hv : q.val a 0 11 = q.f22 + (a - 0) * 2 + 0 := atL_in q.f22 a 0 q.ch 2 0 1 g
    obtain ⟨x, hx⟩ : ∃ x, q.val a 0 11 + 0 = x := ⟨_, rfl⟩
    rw [hx]
    rw [hv] at hx
    have gr := group (a - 0) q.ch 2 0 (by omega) ⟨by omega, by omega⟩ ⟨by omega, by omega⟩
    have hy : x - q.f22 = (a - 0) * 2 + 0 := by omega
    refine ⟨?_, by omega, by omega⟩
    unfold LP.own
    rw [if_neg (by omega), if_neg (by omega), if_neg (by omega), if_neg (by omega), if_neg (by omega), if_neg (by omega), if_neg (by omega), if_neg (by omega), if_neg (by omega), if_pos (by omega)]
    rw [hy, gr.1, gr.2.1, if_pos (by omega)]
    exact tup _ (by omega) (by omega) (by omega)
  · have hi0 : i = 0 := by unfold manyK at hi; rw [if_neg (by omega)] at hi; omega
    subst hi0
    have hb0 : b = 0 := hone rfl
    subst hb0
    have g := atL_ge (q.f22 + 1) a 0 q.ch 2 0 1 his
    have hv : q.val a 0 12 = (q.f22 + 1) + (a - 0) * 2 + 0 := atL_in (q.f22 + 1) a 0 q.ch 2 0 1 g
    obtain ⟨x, hx⟩ : ∃ x, q.val a 0 12 + 0 = x := ⟨_, rfl⟩
    rw [hx]
    rw [hv] at hx
    have gr := group (a - 0) q.ch 2 1 (by omega) ⟨by omega, by omega⟩ ⟨by omega, by omega⟩
    have hy : x - q.f22 = (a - 0) * 2 + 1 := by omega
    refine ⟨?_, by omega, by omega⟩
    unfold LP.own
    rw [if_neg (by omega), if_neg (by omega), if_neg (by omega), if_neg (by omega), if_neg (by omega), if_neg (by omega), if_neg (by omega), if_neg (by omega), if_neg (by omega), if_pos (by omega)]
    rw [hy, gr.1, gr.2.1, if_neg (by omega)]
    exact tup _ (by omega) (by omega) (by omega)
  · have hi0 : i = 0 := by unfold manyK at hi; rw [if_neg (by omega)] at hi; omega
    subst hi0
    have g := atL_ge q.f23 a 1 q.n 8 b 8 his
    have hv : q.val a b 13 = q.f23 + (a - 1) * 8 + b := atL_in q.f23 a 1 q.n 8 b 8 g
    obtain ⟨x, hx⟩ : ∃ x, q.val a b 13 + 0 = x := ⟨_, rfl⟩
    rw [hx]
    rw [hv] at hx
    have gr := group (a - 1) q.n 8 b (by omega) ⟨by omega, by omega⟩ ⟨by omega, by omega⟩
    have hy : x - q.f23 = (a - 1) * 8 + b := by omega
    refine ⟨?_, by omega, by omega⟩
    unfold LP.own
    rw [if_neg (by omega), if_neg (by omega), if_neg (by omega), if_neg (by omega), if_neg (by omega), if_neg (by omega), if_neg (by omega), if_neg (by omega), if_neg (by omega), if_neg (by omega)]
    rw [hy, gr.1, gr.2.1]
    exact tup _ (by omega) (by omega) (by omega)

set_option maxHeartbeats 4000000 in
theorem own_vis (q : LP) (h : q.Ok) (x : Int) (h4 : 4 ≤ x) (hx : x < q.f24) : ∃ k a b i, q.own x = (k, a, b, i) ∧ q.Vis k a b i ∧ q.val a b k + i = x ∧ (0 ≤ a ∧ a < 64) ∧ (0 ≤ b ∧ b < 16) ∧ i < 64 := by
  obtain ⟨hs, hn, hb, hsl, ht, hce, hma, hst, hch⟩ := h
  have hR := rings_le q.t
  have hC : 4 ≤ q.C ∧ q.C ≤ 124 := by
    unfold LP.C
    rcases (show ringsP q.t = 1 ∨ ringsP q.t = 2 ∨ ringsP q.t = 3 ∨ ringsP q.t = 4 ∨ ringsP q.t = 5 by omega) with h | h | h | h | h <;> rw [h] <;> decide
  have e18 : q.f18 = 4 + 8 * q.s + q.s * q.C := rfl
  have e19 : q.f19 = q.f18 + 4 * q.t := rfl
  have e20 : q.f20 = q.f19 + q.ce := rfl
  have e21 : q.f21 = q.f20 + q.ma * (2 + q.bu) := rfl
  have e22 : q.f22 = q.f21 + q.st * (1 + q.sl) := rfl
  have e23 : q.f23 = q.f22 + 2 * q.ch := rfl
  have e24 : q.f24 = q.f23 + 8 * q.n := rfl
  have p3 : 0 ≤ q.s * q.C := Int.mul_nonneg (by omega) (by omega)
  have p1 : 0 ≤ q.ma * (2 + q.bu) := Int.mul_nonneg (by omega) (by omega)
  have p2 : 0 ≤ q.st * (1 + q.sl) := Int.mul_nonneg (by omega) (by omega)
  by_cases x0 : x < (4 + q.s)
  · have how : q.own x = (0, x - 4, 0, 0) := by unfold LP.own; rw [if_pos (by omega)]
    have hv : q.val (x - 4) 0 0 = 4 + (x - 4 - 0) * 1 + 0 := atL_in 4 (x - 4) 0 q.s 1 0 1 (by omega)
    exact ⟨0, x - 4, 0, 0, how, ⟨by omega, by rw [hv]; omega, fun _ => rfl, by omega, by unfold manyK; rw [if_neg (by omega)]; omega⟩, by rw [hv]; omega, ⟨by omega, by omega⟩, ⟨by omega, by omega⟩, by omega⟩
  by_cases x1 : x < (4 + 2 * q.s)
  · have how : q.own x = (1, x - (4 + q.s), 0, 0) := by unfold LP.own; rw [if_neg (by omega), if_pos (by omega)]
    have hv : q.val (x - (4 + q.s)) 0 1 = (4 + q.s) + (x - (4 + q.s) - 0) * 1 + 0 := atL_in (4 + q.s) (x - (4 + q.s)) 0 q.s 1 0 1 (by omega)
    exact ⟨1, x - (4 + q.s), 0, 0, how, ⟨by omega, by rw [hv]; omega, fun _ => rfl, by omega, by unfold manyK; rw [if_neg (by omega)]; omega⟩, by rw [hv]; omega, ⟨by omega, by omega⟩, ⟨by omega, by omega⟩, by omega⟩
  by_cases x2 : x < (4 + 5 * q.s)
  · have gr := split_group (x - (4 + 2 * q.s)) q.s 3 (by omega) (by omega) (by omega)
    obtain ⟨A, hA⟩ : ∃ A, (x - (4 + 2 * q.s)) / 3 = A := ⟨_, rfl⟩
    obtain ⟨o, ho⟩ : ∃ o, (x - (4 + 2 * q.s)) % 3 = o := ⟨_, rfl⟩
    rw [hA, ho] at gr
    have hpos : 0 ≤ A * 3 := Int.mul_nonneg (by omega) (by omega)
    have how : q.own x = (2, A, o, 0) := by unfold LP.own; rw [if_neg (by omega), if_neg (by omega), if_pos (by omega), hA, ho]
    have hv : q.val A o 2 = (4 + 2 * q.s) + (A - 0) * 3 + o := atL_in (4 + 2 * q.s) A 0 q.s 3 o 3 (by omega)
    rw [show A - 0 = A by omega] at hv
    exact ⟨2, A, o, 0, how, ⟨by omega, by rw [hv]; omega, fun h => absurd h (by decide), by omega, by unfold manyK; rw [if_neg (by omega)]; omega⟩, by rw [hv]; omega, ⟨by omega, by omega⟩, ⟨by omega, by omega⟩, by omega⟩
  by_cases x3 : x < (4 + 8 * q.s)
  · have gr := split_group (x - (4 + 5 * q.s)) q.s 3 (by omega) (by omega) (by omega)
    obtain ⟨A, hA⟩ : ∃ A, (x - (4 + 5 * q.s)) / 3 = A := ⟨_, rfl⟩
    obtain ⟨o, ho⟩ : ∃ o, (x - (4 + 5 * q.s)) % 3 = o := ⟨_, rfl⟩
    rw [hA, ho] at gr
    have hpos : 0 ≤ A * 3 := Int.mul_nonneg (by omega) (by omega)
    have how : q.own x = (3, A, o, 0) := by unfold LP.own; rw [if_neg (by omega), if_neg (by omega), if_neg (by omega), if_pos (by omega), hA, ho]
    have hv : q.val A o 3 = (4 + 5 * q.s) + (A - 0) * 3 + o := atL_in (4 + 5 * q.s) A 0 q.s 3 o 3 (by omega)
    rw [show A - 0 = A by omega] at hv
    exact ⟨3, A, o, 0, how, ⟨by omega, by rw [hv]; omega, fun h => absurd h (by decide), by omega, by unfold manyK; rw [if_neg (by omega)]; omega⟩, by rw [hv]; omega, ⟨by omega, by omega⟩, ⟨by omega, by omega⟩, by omega⟩
  by_cases x4 : x < q.f18
  · have gr := split_group (x - (4 + 8 * q.s)) q.s q.C (by omega) (by omega) (by omega)
    have how : q.own x = (4, (x - (4 + 8 * q.s)) / q.C, rr ((x - (4 + 8 * q.s)) % q.C), (x - (4 + 8 * q.s)) % q.C - cellsP (rr ((x - (4 + 8 * q.s)) % q.C))) := by unfold LP.own; rw [if_neg (by omega), if_neg (by omega), if_neg (by omega), if_neg (by omega), if_pos (by omega)]
    obtain ⟨A, hA⟩ : ∃ A, (x - (4 + 8 * q.s)) / q.C = A := ⟨_, rfl⟩
    obtain ⟨o, ho⟩ : ∃ o, (x - (4 + 8 * q.s)) % q.C = o := ⟨_, rfl⟩
    rw [hA, ho] at gr how
    have hs2 := rr_split o (ringsP q.t) (by omega) hR.1 hR.2 gr.2.2.2.1
    have hv : q.val A (rr o) 4 = 4 + 8 * q.s + A * q.C + cellsP (rr o) := ringV_in q.s q.t (4 + 8 * q.s) A (rr o) (by omega) (by omega) hs2.1 hs2.2.1
    have hcb := cells_le (rr o) hs2.1
    have hpos : 0 ≤ A * q.C := Int.mul_nonneg (by omega) (by omega)
    have hsz : sizeP (rr o) ≤ 64 := by
      rcases (show rr o = 0 ∨ rr o = 1 ∨ rr o = 2 ∨ rr o = 3 ∨ rr o = 4 by omega) with h | h | h | h | h <;> rw [h] <;> decide
    exact ⟨4, A, rr o, o - cellsP (rr o), how, ⟨by omega, by rw [hv]; omega, fun h => absurd h (by decide), hs2.2.2.1, hs2.2.2.2⟩, by rw [hv]; omega, ⟨by omega, by omega⟩, ⟨by omega, by omega⟩, by omega⟩
  by_cases x5 : x < q.f19
  · have gr := split_group (x - q.f18) q.t 4 (by omega) (by omega) (by omega)
    obtain ⟨A, hA⟩ : ∃ A, (x - q.f18) / 4 = A := ⟨_, rfl⟩
    obtain ⟨o, ho⟩ : ∃ o, (x - q.f18) % 4 = o := ⟨_, rfl⟩
    rw [hA, ho] at gr
    have hpos : 0 ≤ A * 4 := Int.mul_nonneg (by omega) (by omega)
    have how : q.own x = (5, (A + 1), o, 0) := by unfold LP.own; rw [if_neg (by omega), if_neg (by omega), if_neg (by omega), if_neg (by omega), if_neg (by omega), if_pos (by omega), hA, ho]
    have hv : q.val (A + 1) o 5 = q.f18 + ((A + 1) - 1) * 4 + o := atL_in q.f18 (A + 1) 1 q.t 4 o 4 (by omega)
    rw [show (A + 1) - 1 = A by omega] at hv
    exact ⟨5, (A + 1), o, 0, how, ⟨by omega, by rw [hv]; omega, fun h => absurd h (by decide), by omega, by unfold manyK; rw [if_neg (by omega)]; omega⟩, by rw [hv]; omega, ⟨by omega, by omega⟩, ⟨by omega, by omega⟩, by omega⟩
  by_cases x6 : x < q.f20
  · have how : q.own x = (6, x - q.f19, 0, 0) := by unfold LP.own; rw [if_neg (by omega), if_neg (by omega), if_neg (by omega), if_neg (by omega), if_neg (by omega), if_neg (by omega), if_pos (by omega)]
    have hv : q.val (x - q.f19) 0 6 = q.f19 + (x - q.f19 - 0) * 1 + 0 := atL_in q.f19 (x - q.f19) 0 q.ce 1 0 1 (by omega)
    exact ⟨6, x - q.f19, 0, 0, how, ⟨by omega, by rw [hv]; omega, fun _ => rfl, by omega, by unfold manyK; rw [if_neg (by omega)]; omega⟩, by rw [hv]; omega, ⟨by omega, by omega⟩, ⟨by omega, by omega⟩, by omega⟩
  by_cases x7 : x < q.f21
  · have gr := split_group (x - q.f20) q.ma (2 + q.bu) (by omega) (by omega) (by omega)
    obtain ⟨A, hA⟩ : ∃ A, (x - q.f20) / (2 + q.bu) = A := ⟨_, rfl⟩
    obtain ⟨o, ho⟩ : ∃ o, (x - q.f20) % (2 + q.bu) = o := ⟨_, rfl⟩
    rw [hA, ho] at gr
    have hpos : 0 ≤ A * (2 + q.bu) := Int.mul_nonneg (by omega) (by omega)
    by_cases hcd : o < 2
    · have how : q.own x = (7, A, o, 0) := by unfold LP.own; rw [if_neg (by omega), if_neg (by omega), if_neg (by omega), if_neg (by omega), if_neg (by omega), if_neg (by omega), if_neg (by omega), if_pos (by omega), hA, ho, if_pos (by omega)]
      have hv : q.val A o 7 = q.f20 + (A - 0) * (2 + q.bu) + o := atL_in q.f20 A 0 q.ma (2 + q.bu) o 2 (by omega)
      rw [show A - 0 = A by omega] at hv
      exact ⟨7, A, o, 0, how, ⟨by omega, by rw [hv]; omega, fun h => absurd h (by decide), by omega, by unfold manyK; rw [if_neg (by omega)]; omega⟩, by rw [hv]; omega, ⟨by omega, by omega⟩, ⟨by omega, by omega⟩, by omega⟩
    · have how : q.own x = (8, A, (o - 2), 0) := by unfold LP.own; rw [if_neg (by omega), if_neg (by omega), if_neg (by omega), if_neg (by omega), if_neg (by omega), if_neg (by omega), if_neg (by omega), if_pos (by omega), hA, ho, if_neg (by omega)]
      have hv : q.val A (o - 2) 8 = (q.f20 + 2) + (A - 0) * (2 + q.bu) + (o - 2) := atL_in (q.f20 + 2) A 0 q.ma (2 + q.bu) (o - 2) q.bu (by omega)
      rw [show A - 0 = A by omega] at hv
      exact ⟨8, A, (o - 2), 0, how, ⟨by omega, by rw [hv]; omega, fun h => absurd h (by decide), by omega, by unfold manyK; rw [if_neg (by omega)]; omega⟩, by rw [hv]; omega, ⟨by omega, by omega⟩, ⟨by omega, by omega⟩, by omega⟩
  by_cases x8 : x < q.f22
  · have gr := split_group (x - q.f21) q.st (1 + q.sl) (by omega) (by omega) (by omega)
    obtain ⟨A, hA⟩ : ∃ A, (x - q.f21) / (1 + q.sl) = A := ⟨_, rfl⟩
    obtain ⟨o, ho⟩ : ∃ o, (x - q.f21) % (1 + q.sl) = o := ⟨_, rfl⟩
    rw [hA, ho] at gr
    have hpos : 0 ≤ A * (1 + q.sl) := Int.mul_nonneg (by omega) (by omega)
    by_cases hcd : o < 1
    · have how : q.own x = (9, A, 0, 0) := by unfold LP.own; rw [if_neg (by omega), if_neg (by omega), if_neg (by omega), if_neg (by omega), if_neg (by omega), if_neg (by omega), if_neg (by omega), if_neg (by omega), if_pos (by omega), hA, ho, if_pos (by omega)]
      have hv : q.val A 0 9 = q.f21 + (A - 0) * (1 + q.sl) + 0 := atL_in q.f21 A 0 q.st (1 + q.sl) 0 1 (by omega)
      rw [show A - 0 = A by omega] at hv
      exact ⟨9, A, 0, 0, how, ⟨by omega, by rw [hv]; omega, fun _ => rfl, by omega, by unfold manyK; rw [if_neg (by omega)]; omega⟩, by rw [hv]; omega, ⟨by omega, by omega⟩, ⟨by omega, by omega⟩, by omega⟩
    · have how : q.own x = (10, A, (o - 1), 0) := by unfold LP.own; rw [if_neg (by omega), if_neg (by omega), if_neg (by omega), if_neg (by omega), if_neg (by omega), if_neg (by omega), if_neg (by omega), if_neg (by omega), if_pos (by omega), hA, ho, if_neg (by omega)]
      have hv : q.val A (o - 1) 10 = (q.f21 + 1) + (A - 0) * (1 + q.sl) + (o - 1) := atL_in (q.f21 + 1) A 0 q.st (1 + q.sl) (o - 1) q.sl (by omega)
      rw [show A - 0 = A by omega] at hv
      exact ⟨10, A, (o - 1), 0, how, ⟨by omega, by rw [hv]; omega, fun h => absurd h (by decide), by omega, by unfold manyK; rw [if_neg (by omega)]; omega⟩, by rw [hv]; omega, ⟨by omega, by omega⟩, ⟨by omega, by omega⟩, by omega⟩
  by_cases x9 : x < q.f23
  · have gr := split_group (x - q.f22) q.ch 2 (by omega) (by omega) (by omega)
    obtain ⟨A, hA⟩ : ∃ A, (x - q.f22) / 2 = A := ⟨_, rfl⟩
    obtain ⟨o, ho⟩ : ∃ o, (x - q.f22) % 2 = o := ⟨_, rfl⟩
    rw [hA, ho] at gr
    have hpos : 0 ≤ A * 2 := Int.mul_nonneg (by omega) (by omega)
    by_cases hcd : o < 1
    · have how : q.own x = (11, A, 0, 0) := by unfold LP.own; rw [if_neg (by omega), if_neg (by omega), if_neg (by omega), if_neg (by omega), if_neg (by omega), if_neg (by omega), if_neg (by omega), if_neg (by omega), if_neg (by omega), if_pos (by omega), hA, ho, if_pos (by omega)]
      have hv : q.val A 0 11 = q.f22 + (A - 0) * 2 + 0 := atL_in q.f22 A 0 q.ch 2 0 1 (by omega)
      rw [show A - 0 = A by omega] at hv
      exact ⟨11, A, 0, 0, how, ⟨by omega, by rw [hv]; omega, fun _ => rfl, by omega, by unfold manyK; rw [if_neg (by omega)]; omega⟩, by rw [hv]; omega, ⟨by omega, by omega⟩, ⟨by omega, by omega⟩, by omega⟩
    · have how : q.own x = (12, A, 0, 0) := by unfold LP.own; rw [if_neg (by omega), if_neg (by omega), if_neg (by omega), if_neg (by omega), if_neg (by omega), if_neg (by omega), if_neg (by omega), if_neg (by omega), if_neg (by omega), if_pos (by omega), hA, ho, if_neg (by omega)]
      have hv : q.val A 0 12 = (q.f22 + 1) + (A - 0) * 2 + 0 := atL_in (q.f22 + 1) A 0 q.ch 2 0 1 (by omega)
      rw [show A - 0 = A by omega] at hv
      exact ⟨12, A, 0, 0, how, ⟨by omega, by rw [hv]; omega, fun _ => rfl, by omega, by unfold manyK; rw [if_neg (by omega)]; omega⟩, by rw [hv]; omega, ⟨by omega, by omega⟩, ⟨by omega, by omega⟩, by omega⟩
  · have gr := split_group (x - q.f23) q.n 8 (by omega) (by omega) (by omega)
    obtain ⟨A, hA⟩ : ∃ A, (x - q.f23) / 8 = A := ⟨_, rfl⟩
    obtain ⟨o, ho⟩ : ∃ o, (x - q.f23) % 8 = o := ⟨_, rfl⟩
    rw [hA, ho] at gr
    have hpos : 0 ≤ A * 8 := Int.mul_nonneg (by omega) (by omega)
    have how : q.own x = (13, (A + 1), o, 0) := by unfold LP.own; rw [if_neg (by omega), if_neg (by omega), if_neg (by omega), if_neg (by omega), if_neg (by omega), if_neg (by omega), if_neg (by omega), if_neg (by omega), if_neg (by omega), if_neg (by omega), hA, ho]
    have hv : q.val (A + 1) o 13 = q.f23 + ((A + 1) - 1) * 8 + o := atL_in q.f23 (A + 1) 1 q.n 8 o 8 (by omega)
    rw [show (A + 1) - 1 = A by omega] at hv
    exact ⟨13, (A + 1), o, 0, how, ⟨by omega, by rw [hv]; omega, fun h => absurd h (by decide), by omega, by unfold manyK; rw [if_neg (by omega)]; omega⟩, by rw [hv]; omega, ⟨by omega, by omega⟩, ⟨by omega, by omega⟩, by omega⟩
end Go.Proofs.Ytbaeckehchpfaaa
