/-
  LEX: the walk of LexPlaces.
-/
import Derived.Test.YtplndghcileghaaDoorRows
import Derived.ProofKit
import Derived.Test.YtplndghcileghaaDoorLexX
import Derived.IntWalk
namespace Go.Proofs.YtplndghcileghaaDoor
open Go.ChangeShapes Go.WideShapes Go.ChangeAt Go.RowKit

theorem blank_yes (s : ByteArray) (k : Nat) (h : k < s.size) (hb : blankU (s[k]'h) = true) (w : World) :
    Calls Tryd.prog 15 #[.int .u8 ((s[k]'h).toNat : Int)] w fun e w' => e = .returned (.bool true) ∧ w' = w := by
  have := blank_says (s[k]'h) w
  rwa [hb] at this

/-- what a word that stands there tells -/
theorem placed_step {s : ByteArray} {pos : Nat} {t : Tok} {r : List Tok} (h : Placed pos (s.data.toList.drop pos) (t :: r)) (hp : pos ≤ s.size) :
    pos ≤ t.p ∧ t.p + t.t.length ≤ s.size ∧ 0 < t.t.length ∧ (∀ k, (hk : k < s.size) → pos ≤ k → k < t.p → blankU (s[k]'hk) = true) ∧ s.extract t.p (t.p + t.t.length) = bs t.t ∧ Placed (t.p + t.t.length) (s.data.toList.drop (t.p + t.t.length)) r := by
  obtain ⟨b, l', h1, h2, h3, h4, h5⟩ := h
  have hl : s.data.toList.length = s.size := by rw [Array.length_toList]; rfl
  have h6 := congrArg List.length h2
  rw [List.length_drop, List.length_append, List.length_append, hl] at h6
  have h7 : 0 < t.t.length := List.length_pos_iff.2 h4
  have hd1 : s.data.toList.drop t.p = t.t ++ l' := by rw [← h1, ← List.drop_drop, h2, List.drop_left]
  have hd2 : s.data.toList.drop (t.p + t.t.length) = l' := by rw [← List.drop_drop, hd1, List.drop_left]
  refine ⟨by omega, by omega, h7, ?_, ?_, ?_⟩
  · intro k hk h8 h9
    have e1 : (s.data.toList.drop pos)[k - pos]? = some (s[k]'hk) := by
      have := drop_get s pos (k - pos) (by omega)
      rw [this]
      congr 2; omega
    rw [h2, List.getElem?_append_left (by omega)] at e1
    exact h3 _ (List.mem_of_getElem? e1)
  · rw [bs_ext, hd1]
    congr 1
    rw [show t.p + t.t.length - t.p = t.t.length from by omega, List.take_left]
  · rw [hd2]; exact h5

set_option maxRecDepth 100000 in
set_option maxHeartbeats 1000000 in
theorem walkLexPlaces (s : ByteArray) (W : World) (hs : s.size ≤ maxLen) :
    Calls Tryd.prog 5 #[.string s] W fun e W' => e = .returned (.bool true) ∧ Below W.heap.size W W' := by
  unfold maxLen at hs
  go_enter Tryd.func5, Tryd.ntmps5
  go_wp2_with fail
  refine (awake_any W).mono ?_
  rintro e w1 ⟨rfl, hb1⟩
  by_cases hbig : 600 < s.size
  · go_wp2_with fail
    go_ret
    exact ⟨rfl, hb1⟩
  · have h6 : decide (600 < (s.size : Int)) = false := by simp; omega
    cases hw : wordsP 0 s.data.toList with
    | none =>
      have h1 := fun w => words_any s (by omega) w
      rw [hw] at h1
      have H1 := Lib.hid h1
      clear h1 hw
      go_wp2_with fail
      refine (H1.out w1).mono ?_
      rintro e w2 ⟨rfl, hb2⟩
      have hB2 := hb1.trans (hb2.mono hb1.size)
      go_wp2_with fail
      go_ret
      exact ⟨rfl, hB2⟩
    | some ts =>
      have hpl := Lib.hid (words_placed 0 _ ts hw)
      have h1 := fun w => words_any s (by omega) w
      rw [hw] at h1
      have H1 := Lib.hid h1
      clear h1 hw
      obtain ⟨n, hn⟩ : ∃ n, ts.length = n := ⟨_, rfl⟩
      have HN := Lib.hid hn
      go_wp2_with fail
      refine (H1.out w1).mono ?_
      rintro e w2 ⟨p, cap, rfl, ho, hb2, hl⟩
      have hB2 := hb1.trans (hb2.mono hb1.size)
      have ht := Toks.of_own ho
      rw [hn] at hl ⊢
      clear ho hn
      go_wp2_with fail
      go_loopw [6, 7] (fun a i wr => ∃ pos k x : Nat, a = .int .i64 pos ∧ i = .int .i64 k ∧ wr = w2.drewN x ∧ pos ≤ s.size ∧ k ≤ n ∧ Hid (Placed pos (s.data.toList.drop pos) (ts.drop k))) (fun _ i _ => n - (intOf i).toNat)
      case atStart => exact ⟨0, 0, 0, rfl, rfl, rfl, Nat.zero_le _, Nat.zero_le _, hpl⟩
      case round =>
        obtain ⟨pos, k, x, rfl, rfl, rfl, hps, hk, HP⟩ := hrel
        by_cases hlt : k < n
        · have hkt : k < ts.length := by rw [HN.out]; exact hlt
          obtain ⟨b, o, rfl, _, g0, g1, g2, g3⟩ := ht.at_ k (by rw [tsV_length]; exact hkt)
          have hdr : ts.drop k = ts[k] :: ts.drop (k + 1) := List.drop_eq_getElem_cons hkt
          obtain ⟨t, htk⟩ : ∃ t, ts[k] = t := ⟨_, rfl⟩
          have hv : (tsV ts)[k]'(by rw [tsV_length]; exact hkt) = t.v := by unfold tsV; rw [List.getElem_map, htk]
          rw [hv] at g0 g1 g2 g3
          have hP := HP.out
          rw [hdr, htk] at hP
          obtain ⟨f1, f2, f3, f4, f5, f6⟩ := placed_step hP hps
          obtain ⟨q, hq⟩ : ∃ q, t.p = q := ⟨_, rfl⟩
          obtain ⟨T, hT⟩ : ∃ T, bs t.t = T := ⟨_, rfl⟩
          obtain ⟨m, hm⟩ : ∃ m, t.t.length = m := ⟨_, rfl⟩
          have g1' : w2.cell? ⟨b, o + k * 4 + 1, none⟩ = some (.string T) := by rw [← hT]; exact g1
          have g3' : w2.cell? ⟨b, o + k * 4 + 3, none⟩ = some (.int .i64 (q : Int)) := by rw [← hq]; exact g3
          have hTs : T.size = m := by rw [← hT, size_bs, hm]
          rw [hq, hm] at f2 f5 f6
          rw [hq] at f1
          rw [hm] at f3
          obtain ⟨e, he⟩ : ∃ e, q + m = e := ⟨_, rfl⟩
          rw [he] at f2 f5 f6
          rw [hT] at f5
          rw [hq] at f4
          have F4 := Lib.hid f4
          have F6 := Lib.hid f6
          have HQ := Lib.hid hq
          have hsum : IntKind.i64.wrap ((q : Int) + (m : Int)) = (e : Int) := by rw [IntWalk.i64_in _ (by omega)]; omega
          have d1 : decide (q < pos) = false := by simp; omega
          have d2 : decide (s.size < e) = false := by simp; omega
          have d3 : ((m : Int) == 0) = false := by simp; omega
          have hqe : q ≤ e := by omega
          clear g0 g1 g2 g3 hdr htk hv hP f4 f6 hq hT hm he
          go_wp2_with fail
          go_quiet (fail)
          go_wp2_with fail
          go_loop [9] (fun i => ∃ j : Nat, i = .int .i64 j ∧ pos ≤ j ∧ j ≤ q) (fun i => q - (intOf i).toNat)
          case atStart => exact ⟨pos, rfl, Nat.le_refl _, f1⟩
          case round =>
            obtain ⟨j, rfl, hj1, hj2⟩ := hrel
            by_cases hjq : j < q
            · have hjs : j < s.size := by omega
              have hbl := Lib.hid (F4.out j hjs hj1 hjq)
              go_wp2_with fail
              refine (blank_yes s j hjs hbl.out _).mono ?_
              rintro e w3 ⟨rfl, rfl⟩
              go_wp2_with fail
              go_round
              case rel => exact ⟨j + 1, by go_num, by omega, by omega⟩
              case measure => simp [intOf]; omega
            · obtain rfl : j = q := by omega
              go_wp2_with fail
              go_quiet (fail)
              go_wp2_with fail
              go_roundw
              case rel => exact ⟨e, k + 1, _, rfl, by go_num, rfl, by omega, by omega, F6⟩
              case measure => simp [intOf]; omega
        · obtain rfl : k = n := by omega
          have hP := HP.out
          rw [show ts.drop k = [] from List.drop_eq_nil_of_le (by rw [HN.out]; exact Nat.le_refl _)] at hP
          have hall : ∀ j, (h : j < s.size) → pos ≤ j → blankU (s[j]'h) = true := by
            intro j h1 h2
            refine hP _ (List.mem_of_getElem? (i := j - pos) ?_)
            rw [drop_get s pos (j - pos) (by omega)]
            congr 2; omega
          have HALL := Lib.hid hall
          clear hP hall
          go_wp2_with fail
          go_loop [11] (fun i => ∃ j : Nat, i = .int .i64 j ∧ pos ≤ j ∧ j ≤ s.size) (fun i => s.size - (intOf i).toNat)
          case atStart => exact ⟨pos, rfl, Nat.le_refl _, hps⟩
          case round =>
            obtain ⟨j, rfl, hj1, hj2⟩ := hrel
            by_cases hjs : j < s.size
            · have hbl := Lib.hid (HALL.out j hjs hj1)
              go_wp2_with fail
              refine (blank_yes s j hjs hbl.out _).mono ?_
              rintro e w3 ⟨rfl, rfl⟩
              go_wp2_with fail
              go_round
              case rel => exact ⟨j + 1, by go_num, by omega, by omega⟩
              case measure => simp [intOf]; omega
            · go_wp2_with fail
              go_ret
              exact ⟨rfl, below_drewN hB2 x⟩
end Go.Proofs.YtplndghcileghaaDoor
