/-
  LEX: the walk of LexReads.
-/
import Derived.Test.YtplndghcileghaaDoorRows
import Derived.ProofKit
import Derived.Test.YtplndghcileghaaDoorLexX
namespace Go.Proofs.YtplndghcileghaaDoor
open Go.ChangeShapes Go.WideShapes Go.ChangeAt Go.RowKit

theorem same_true (p q : Option Addr) (ts : List TokV) (n c d : Nat) (w : World) (ha : Toks w p ts) (hb : Toks w q ts) (hn : ts.length = n) (hl : n ≤ 1000000) :
    Calls Tryd.prog 12 #[.slice p n c, .slice q n d] w fun e w' => e = .returned (.bool true) ∧ ∃ n, w' = w.drewN n := by
  subst hn
  have := same_any p q ts ts c d w ha hb hl hl
  rwa [decide_eq_true rfl] at this

set_option maxRecDepth 100000 in
theorem walkLexReads (s : ByteArray) (W : World) (hs : s.size ≤ maxLen) :
    Calls Tryd.prog 3 #[.string s] W fun e W' => e = .returned (.bool true) ∧ Below W.heap.size W W' := by
  unfold maxLen at hs
  go_enter Tryd.func3, Tryd.ntmps3
  go_wp2_with fail
  refine (awake_any W).mono ?_
  rintro e w1 ⟨rfl, hb1⟩
  by_cases hbig : 600 < s.size
  · go_wp2_with fail
    go_ret
    exact ⟨rfl, hb1⟩
  · have h6 : decide (600 < (s.size : Int)) = false := by simp; omega
    cases hw : wordsP 0 s.data.toList with
    | none =>
      have h1 := fun w => words_any s (by omega) w
      have h2 := fun w => rwords_any s (by omega) w
      rw [hw] at h1 h2
      have H1 := Lib.hid h1
      have H2 := Lib.hid h2
      clear h1 h2 hw
      go_wp2_with fail
      refine (H1.out w1).mono ?_
      rintro e w2 ⟨rfl, hb2⟩
      have hB2 := hb1.trans (hb2.mono hb1.size)
      go_wp2_with fail
      refine (H2.out w2).mono ?_
      rintro e w3 ⟨rfl, hb3⟩
      have hB3 := hB2.trans (hb3.mono hB2.size)
      go_wp2_with fail
      refine (same_true none none [] 0 0 0 w3 (Toks.nil _ _) (Toks.nil _ _) rfl (by decide)).mono ?_
      rintro e w4 ⟨rfl, x, rfl⟩
      go_wp2_with fail
      go_ret
      exact ⟨rfl, below_drewN hB3 x⟩
    | some ts =>
      have h1 := fun w => words_any s (by omega) w
      have h2 := fun w => rwords_any s (by omega) w
      rw [hw] at h1 h2
      have H1 := Lib.hid h1
      have H2 := Lib.hid h2
      clear h1 h2 hw
      go_wp2_with fail
      refine (H1.out w1).mono ?_
      rintro e w2 ⟨p, cap, rfl, ho, hb2, hl⟩
      have hB2 := hb1.trans (hb2.mono hb1.size)
      have ht := Toks.of_own ho
      clear ho
      go_wp2_with fail
      refine (H2.out w2).mono ?_
      rintro e w3 ⟨q, cap2, rfl, ho, hb3, _⟩
      have hB3 := hB2.trans (hb3.mono hB2.size)
      have ht2 := Toks.of_own ho
      clear ho
      go_wp2_with fail
      refine (same_true p q (tsV ts) _ _ _ w3 (ht.later hb3) ht2 (tsV_length ts) (by omega)).mono ?_
      rintro e w4 ⟨rfl, x, rfl⟩
      go_wp2_with fail
      go_ret
      exact ⟨rfl, below_drewN hB3 x⟩
end Go.Proofs.YtplndghcileghaaDoor
