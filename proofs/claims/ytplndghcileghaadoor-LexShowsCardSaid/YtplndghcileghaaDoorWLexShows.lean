/-
  LEX: the walk of LexShows.
-/
import Derived.Test.YtplndghcileghaaDoorRows
import Derived.ProofKit
import Derived.Test.YtplndghcileghaaDoorLexX
import Derived.Test.YtplndghcileghaaDoorOpenT
namespace Go.Proofs.YtplndghcileghaaDoor
open Go.ChangeShapes Go.WideShapes Go.ChangeAt Go.RowKit

theorem texts_sum : ∀ ts : List TokV, (∀ t ∈ ts, t.t.size ≤ 100) → ((textsV ts).map (fun x => x.length + 1)).sum ≤ 101 * ts.length
  | [], _ => by simp [textsV]
  | t :: ts, h => by
    have h1 := texts_sum ts (fun x hx => h x (List.mem_cons_of_mem _ hx))
    have h2 := h t (List.mem_cons_self ..)
    rw [size_len] at h2
    simp [textsV] at h1 h2 ⊢
    omega

set_option maxRecDepth 100000 in
theorem walkLexShows (a : Option Addr) (cap : Nat) (ts : List TokV) (W : World) (ht : Toks W a ts) (hm : ts.length ≤ maxLen) (hk : ts.length ≤ cap) (hnil : a = none → cap = 0) :
    Calls Tryd.prog 4 #[.slice a ts.length cap] W fun e W' => e = .returned (.bool true) ∧ Below W.heap.size W W' := by
  unfold maxLen at hm
  obtain ⟨n, hn⟩ : ∃ n, ts.length = n := ⟨_, rfl⟩
  have HN := Lib.hid hn
  rw [hn] at hm hk ⊢
  clear hn hk hnil
  go_enter Tryd.func4, Tryd.ntmps4
  go_wp2_with fail
  refine (awake_any W).mono ?_
  rintro e w1 ⟨rfl, hb1⟩
  have ht1 := ht.later hb1
  by_cases hbig : 100 < n
  · go_wp2_with fail
    go_ret
    exact ⟨rfl, hb1⟩
  · have h6 : decide (100 < (n : Int)) = false := by simp; omega
    go_wp2_with fail
    go_loop [4] (fun i => ∃ k : Nat, i = .int .i64 k ∧ k ≤ n ∧ Hid (∀ j, (h : j < ts.length) → j < k → ts[j].t.size ≤ 100)) (fun i => n - (intOf i).toNat)
    case atStart => exact ⟨0, rfl, Nat.zero_le _, Lib.hid (fun j _ h => by omega)⟩
    case round =>
      obtain ⟨k, rfl, hk, HA⟩ := hrel
      by_cases hlt : k < n
      · have hkt : k < ts.length := by rw [HN.out]; exact hlt
        obtain ⟨b, o, rfl, _, g0, g1, g2, g3⟩ := ht1.at_ k hkt
        obtain ⟨x, hx⟩ : ∃ x, ts[k] = x := ⟨_, rfl⟩
        rw [hx] at g0 g1 g2 g3
        have HX := Lib.hid hx
        clear hx
        by_cases hxl : 100 < x.t.size
        · go_wp2_with fail
          go_ret
          exact ⟨rfl, hb1⟩
        · go_wp2_with fail
          go_round
          case rel =>
            refine ⟨k + 1, by go_num, by omega, Lib.hid (fun j h hj => ?_)⟩
            by_cases hjk : j < k
            · exact HA.out j h hjk
            · obtain rfl : j = k := by omega
              rw [HX.out]; omega
          case measure => simp [intOf]; omega
      · obtain rfl : k = n := by omega
        have hsum := texts_sum ts (fun t hmem => by
          obtain ⟨j, hj, rfl⟩ := List.getElem_of_mem hmem
          exact HA.out j hj (by rw [HN.out] at hj; exact hj))
        have hlen : (showP (textsV ts)).length ≤ 10100 := by
          have := show_len (textsV ts)
          rw [HN.out] at hsum
          omega
        have h1 := fun w (h : Toks w a ts) => show_any a ts cap w h (by rw [HN.out]; omega) (by omega)
        have h2 := fun w (h : Toks w a ts) => rshow_any a ts cap w h (by rw [HN.out]; omega) (by omega)
        rw [HN.out] at h1 h2
        obtain ⟨S, hS⟩ : ∃ S, bs (showP (textsV ts)) = S := ⟨_, rfl⟩
        rw [hS] at h1 h2
        have H1 := Lib.hid h1
        have H2 := Lib.hid h2
        clear h1 h2 hS hsum hlen
        go_wp2_with fail
        refine (H1.out w1 ht1).mono ?_
        rintro e w2 ⟨rfl, hb2⟩
        have hB2 := hb1.trans (hb2.mono hb1.size)
        go_wp2_with fail
        refine (H2.out w2 (ht1.later hb2)).mono ?_
        rintro e w3 ⟨rfl, hb3⟩
        go_wp2_with fail
        go_ret
        exact ⟨rfl, hB2.trans (hb3.mono hB2.size)⟩
end Go.Proofs.YtplndghcileghaaDoor
