/-
  LEX: the walk of LexAgain.
-/
import Derived.Test.YtplndghcileghaaDoorRows
import Derived.ProofKit
import Derived.Test.YtplndghcileghaaDoorLexX
namespace Go.Proofs.YtplndghcileghaaDoor
open Go.ChangeShapes Go.WideShapes Go.ChangeAt Go.RowKit

theorem textsV_ts (ts : List Tok) : textsV (tsV ts) = ts.map (·.t) := by
  unfold textsV tsV
  rw [List.map_map]
  apply List.map_congr_left
  intro t _
  show (bs t.t).data.toList = t.t
  simp [bs]
theorem tsV_k (ts : List Tok) : (tsV ts).map (·.k) = ts.map (·.k) := by unfold tsV; rw [List.map_map]; rfl
theorem tsV_n (ts : List Tok) : (tsV ts).map (·.n) = ts.map (·.n) := by unfold tsV; rw [List.map_map]; rfl
theorem tsV_t (ts : List Tok) : (tsV ts).map (·.t) = (ts.map (·.t)).map bs := by unfold tsV; rw [List.map_map, List.map_map]; rfl

theorem show_few {l : List UInt8} {ts : List Tok} (h : wordsP 0 l = some ts) : (showP (ts.map (·.t))).length ≤ 2 * l.length := by
  have h1 := show_len (ts.map (·.t))
  have h2 := placed_len ts 0 l (words_placed 0 l ts h)
  rw [List.map_map] at h1
  exact Nat.le_trans h1 h2

set_option maxRecDepth 100000 in
theorem walkLexAgain (s : ByteArray) (W : World) (hs : s.size ≤ maxLen) :
    Calls Tryd.prog 6 #[.string s] W fun e W' => e = .returned (.bool true) ∧ Below W.heap.size W W' := by
  unfold maxLen at hs
  go_enter Tryd.func6, Tryd.ntmps6
  go_wp2_with fail
  refine (awake_any W).mono ?_
  rintro e w1 ⟨rfl, hb1⟩
  by_cases hbig : 600 < s.size
  · go_wp2_with fail
    go_ret
    exact ⟨rfl, hb1⟩
  · have h6 : decide (600 < (s.size : Int)) = false := by simp; omega
    cases hw : wordsP 0 s.data.toList with
    | none =>
      have h1 := fun w => words_any s (by omega) w
      rw [hw] at h1
      have H1 := Lib.hid h1
      clear h1 hw
      go_wp2_with fail
      refine (H1.out w1).mono ?_
      rintro e w2 ⟨rfl, hb2⟩
      have hB2 := hb1.trans (hb2.mono hb1.size)
      go_wp2_with fail
      go_ret
      exact ⟨rfl, hB2⟩
    | some ts =>
      have hsl : s.data.toList.length = s.size := by rw [Array.length_toList]; rfl
      have hfew := show_few hw
      obtain ⟨us, hu, g1, g2, g3⟩ := words_show ts 0 (words_good 0 _ ts hw)
      have hul : us.length = ts.length := by have := congrArg List.length g1; simpa using this
      obtain ⟨S, hS⟩ : ∃ S, bs (showP (ts.map (·.t))) = S := ⟨_, rfl⟩
      have hSd : S.data.toList = showP (ts.map (·.t)) := by rw [← hS]; simp [bs]
      have hSs : S.size ≤ 4000 := by rw [size_len, hSd]; omega
      have h1 := fun w => words_any s (by omega) w
      rw [hw] at h1
      have h2 := fun w => words_any S hSs w
      rw [hSd, hu] at h2
      have hsh : ∀ w p c, Toks w p (tsV ts) → ts.length ≤ 4000 → Calls Tryd.prog 13 #[.slice p ts.length c] w fun e w' => e = .returned (.string S) ∧ Below w.heap.size w w' := by
        intro w p c ht hl
        have := show_any p (tsV ts) c w ht (by rw [tsV_length]; omega) (by rw [textsV_ts]; omega)
        rw [tsV_length, textsV_ts, hS] at this
        exact this
      have hsh2 : ∀ w p c, Toks w p (tsV us) → ts.length ≤ 4000 → Calls Tryd.prog 13 #[.slice p us.length c] w fun e w' => e = .returned (.string S) ∧ Below w.heap.size w w' := by
        intro w p c ht hl
        have := show_any p (tsV us) c w ht (by rw [tsV_length]; omega) (by rw [textsV_ts, g1]; omega)
        rw [tsV_length, textsV_ts, g1, hS] at this
        exact this
      have hal : ∀ w p q c d, Toks w p (tsV ts) → Toks w q (tsV us) → ts.length ≤ 4000 → Calls Tryd.prog 16 #[.slice p ts.length c, .slice q us.length d] w fun e w' => e = .returned (.bool true) ∧ ∃ n, w' = w.drewN n := by
        intro w p q c d ht ht2 hl
        have := alike_any p q (tsV ts) (tsV us) c d w ht ht2 (by rw [tsV_length]; omega) (by rw [tsV_k, tsV_k, g2]) (by rw [tsV_t, tsV_t, g1]) (by rw [tsV_n, tsV_n, g3])
        rw [tsV_length, tsV_length] at this
        exact this
      have H1 := Lib.hid h1
      have H2 := Lib.hid h2
      have HSH := Lib.hid hsh
      have HSH2 := Lib.hid hsh2
      have HAL := Lib.hid hal
      clear h1 h2 hsh hsh2 hal hw hu g1 g2 g3 hS hSd hfew hsl hul
      go_wp2_with fail
      refine (H1.out w1).mono ?_
      rintro e w2 ⟨p, cap, rfl, ho, hb2, hl⟩
      have hB2 := hb1.trans (hb2.mono hb1.size)
      have ht := Toks.of_own ho
      clear ho
      go_wp2_with fail
      refine (HSH.out w2 p cap ht hl).mono ?_
      rintro e w3 ⟨rfl, hb3⟩
      have hB3 := hB2.trans (hb3.mono hB2.size)
      have ht3 := ht.later hb3
      go_wp2_with fail
      refine (H2.out w3).mono ?_
      rintro e w4 ⟨q, cap2, rfl, ho, hb4, _⟩
      have hB4 := hB3.trans (hb4.mono hB3.size)
      have hu4 := Toks.of_own ho
      have ht4 := ht3.later hb4
      clear ho
      go_wp2_with fail
      refine (HAL.out w4 p q cap cap2 ht4 hu4 hl).mono ?_
      rintro e w5 ⟨rfl, x, rfl⟩
      go_wp2_with fail
      refine (HSH2.out _ q cap2 (hu4.drawn x) hl).mono ?_
      rintro e w6 ⟨rfl, hb6⟩
      go_wp2_with fail
      go_ret
      exact ⟨rfl, (below_drewN hB4 x).trans (hb6.mono (show W.heap.size ≤ w4.heap.size from hB4.size))⟩
end Go.Proofs.YtplndghcileghaaDoor
