/-
  MEM: the walk of the law MemOwn.
-/
import Derived.Test.YtnjpdgahjbijcaaMemE
import Derived.Test.YtnjpdgahjbijcaaMemH
namespace Go.Proofs.Ytnjpdgahjbijcaa
open Go.ChangeShapes Go.WideShapes Go.ChangeAt Go.RowKit

theorem whyF_err {len : Nat} {k c o n : Int} (h : whyF len k c o n ≠ 0) : whyF len k c o n = 1 ∨ (whyF len k c o n = 12 ∧ (len : Int) ≤ c) := by
  unfold whyF at *
  split
  · exact .inl rfl
  · split
    · exact .inr ⟨rfl, by assumption⟩
    · simp_all

theorem whyF_ok {len : Nat} {k c o n : Int} (h : whyF len k c o n = 0) : 0 ≤ c ∧ c < len := by
  unfold whyF at h
  split at h
  · simp at h
  · split at h
    · simp at h
    · rename_i h1 h2
      simp [rightB] at h1
      omega

theorem own_facts {xs : List Int} {k o n : Int} {i : Nat} (h : whyF xs.length k (i : Int) o n = 0) :
    (doF xs k i o n).length = xs.length ∧ (∀ j : Nat, j ≠ i → (doF xs k i o n)[j]? = xs[j]?) ∧ ((k = 1 ∨ (toldF xs k i o n).2 = false) → (doF xs k i o n)[i]? = xs[i]?)
      ∧ xs[i]? = some (toldF xs k i o n).1 ∧ (k ≠ 3 → (toldF xs k i o n).2 = true) ∧ (k = 3 → (toldF xs k i o n).2 = decide ((toldF xs k i o n).1 = o)) := by
  obtain ⟨_, hi⟩ := whyF_ok h
  have hi : i < xs.length := by omega
  have e1 : doF xs k i o n = madeF xs k i o n := by unfold doF; rw [if_pos h]
  have e2 : toldF xs k i o n = (xs.getD i 0, wentF xs k i o) := by unfold toldF; rw [if_pos h]; rfl
  have e3 : xs.getD i 0 = xs[i] := by simp [List.getD, hi]
  rw [e1, e2]
  refine ⟨madeF_length _ _ _ _ _, fun j hj => ?_, fun hs => ?_, by simp [e3, hi], fun hk => by simp [wentF, hk], fun hk => ?_⟩
  · unfold madeF
    simp only [Int.toNat_natCast]
    repeat' split
    all_goals first | rfl | (rw [List.getElem?_set_ne (by omega)])
  · unfold madeF
    simp only [Int.toNat_natCast]
    rcases hs with rfl | hs
    · simp
    · simp [wentF] at hs
      by_cases hk1 : k = 1
      · simp [hk1]
      · rw [if_neg hk1, if_pos (by simpa [List.getD] using hs)]
  · simp [wentF, hk]

set_option maxRecDepth 40000 in
set_option maxHeartbeats 4000000 in
theorem walkMemOwn (a0 : Option Addr) (len0 cap0 : Nat) (z0 : List Int) (k c o n : Int) (w : World) (h0 : IsRow .i64 w a0 len0 cap0 z0)
    (_hk : -9223372036854775808 ≤ k ∧ k ≤ 9223372036854775807) (_hc : -9223372036854775808 ≤ c ∧ c ≤ 9223372036854775807) (_ho : -9223372036854775808 ≤ o ∧ o ≤ 9223372036854775807) (hn : -9223372036854775808 ≤ n ∧ n ≤ 9223372036854775807) :
    Calls Try.prog 6 #[.agg #[.slice a0 len0 cap0], .agg #[.int .i64 k, .int .i64 c, .int .i64 o, .int .i64 n]] w fun e w' => e = .returned (.bool true) ∧ Below w.heap.size w w' := by
  obtain ⟨hx, hxl, hx2⟩ := Ints.of_row h0
  generalize z0.take len0 = xs at hx hxl
  subst hxl
  clear h0
  obtain ⟨W, hW⟩ : ∃ W, W = (w.alloc (Obj.cells #[Value.slice a0 xs.length cap0] 24)).alloc (Obj.cells #[Value.int .i64 k, Value.int .i64 c, Value.int .i64 o, Value.int .i64 n] 26) := ⟨_, rfl⟩
  have hbW : Below w.heap.size w W := by rw [hW]; exact bel_alloc (bel_alloc (Below.refl _ _) _) _
  have hs : W.heap.size = w.heap.size + 2 := by rw [hW]; simp [go_sem]
  have hf : ∀ wx, Below W.heap.size W wx → wx.cell? ⟨w.heap.size, 0, none⟩ = some (.slice a0 xs.length cap0) ∧ wx.cell? ⟨w.heap.size + 1, 0, none⟩ = some (.int .i64 k) ∧ wx.cell? ⟨w.heap.size + 1, 1, none⟩ = some (.int .i64 c)
      ∧ wx.cell? ⟨w.heap.size + 1, 2, none⟩ = some (.int .i64 o) ∧ wx.cell? ⟨w.heap.size + 1, 3, none⟩ = some (.int .i64 n) ∧ Ints wx a0 xs ∧ w.heap.size < wx.heap.size ∧ w.heap.size + 1 < wx.heap.size := by
    intro wx hb
    have hq : ∀ b j v, b < w.heap.size + 2 → W.cell? ⟨b, j, none⟩ = some v → wx.cell? ⟨b, j, none⟩ = some v := fun b j v hlt h => by rw [hb.cell (p := ⟨b, j, none⟩) (by show b < _; omega)]; exact h
    have := hb.size
    exact ⟨hq _ _ _ (by omega) (by rw [hW]; simp [go_sem]), hq _ _ _ (by omega) (by rw [hW]; simp [go_sem]), hq _ _ _ (by omega) (by rw [hW]; simp [go_sem]), hq _ _ _ (by omega) (by rw [hW]; simp [go_sem]), hq _ _ _ (by omega) (by rw [hW]; simp [go_sem]),
      (hx.later hbW).later hb, by omega, by omega⟩
  have HF := Lib.hid hf
  have HW := Lib.hid hW
  clear hf hW hs hx
  by_cases hl : xs.length ≤ 100
  · have g1 : ¬ ((100 : Int) < xs.length) := by omega
    go_enter Try.func6, Try.ntmps6
    go_wp2_with fail
    rw [← HW.out]
    refine (shown_any _).mono ?_
    rintro e w1 ⟨rfl, hb1⟩
    obtain ⟨c0, c1, c2, c3, c4, i0, s0, s1⟩ := HF.out w1 hb1
    go_wp2_with fail
    have hD := do_any a0 xs cap0 k c o n w1 i0 (by omega) hn
    unfold DoPost at hD
    refine hD.mono ?_
    clear hD
    rintro e w2 ⟨p2, cp2, rfl, hi2, hb2⟩
    have hbw2 := below_trans hb1 hb2
    clear c0 c1 c2 c3 c4 i0 s0 s1
    obtain ⟨c0, c1, c2, c3, c4, i0, s0, s1⟩ := HF.out w2 hbw2
    by_cases he : whyF xs.length k c o n = 0
    · obtain ⟨i, rfl⟩ : ∃ i : Nat, c = i := ⟨c.toNat, by have := (whyF_ok he).1; omega⟩
      have hil : i < xs.length := by have := (whyF_ok he).2; omega
      obtain ⟨hL, hN, hS, hH, hK, hK3⟩ := own_facts he
      rw [he]
      generalize doF xs k (i : Int) o n = us at *
      generalize (toldF xs k (i : Int) o n).1 = had at *
      generalize (toldF xs k (i : Int) o n).2 = ok at *
      have HN := Lib.hid hN
      have HS := Lib.hid hS
      have HH := Lib.hid hH
      have HK := Lib.hid hK
      have HK3 := Lib.hid hK3
      have HE := Lib.hid he
      have HL := Lib.hid hL
      have HI2 := Lib.hid hi2
      rw [hL]
      clear hN hS hH hK hK3 he hL hi2
      go_wp2_with fail
      obtain ⟨W2, hW2⟩ : ∃ W2, W2 = (w2.alloc (Obj.cells #[Value.slice p2 xs.length cp2] 24)).alloc (Obj.cells #[Value.int .i64 had, Value.bool ok] 29) := ⟨_, rfl⟩
      have bW2 : Below w2.heap.size w2 W2 := by rw [hW2]; exact bel_alloc (bel_alloc (Below.refl _ _) _) _
      have X2 : Blk W2 w2.heap.size 24 #[Value.slice p2 xs.length cp2] := by rw [hW2]; exact (Blk.made _ _ _).alloc _
      have R2 : Blk W2 (w2.heap.size + 1) 29 #[Value.int .i64 had, Value.bool ok] := by rw [hW2]; have := Blk.made (w2.alloc (Obj.cells #[Value.slice p2 xs.length cp2] 24)) 29 #[Value.int .i64 had, Value.bool ok]; simpa [go_sem] using this
      rw [← hW2]
      clear hW2
      have hbw4 := below_trans hbw2 bW2
      have hG : ∀ wx, Below W2.heap.size W2 wx → (wx.cell? ⟨w.heap.size, 0, none⟩ = some (.slice a0 xs.length cap0) ∧ wx.cell? ⟨w.heap.size + 1, 0, none⟩ = some (.int .i64 k) ∧ wx.cell? ⟨w.heap.size + 1, 1, none⟩ = some (.int .i64 (i : Int))
          ∧ wx.cell? ⟨w.heap.size + 1, 2, none⟩ = some (.int .i64 o)) ∧ wx.cell? ⟨w2.heap.size, 0, none⟩ = some (.slice p2 xs.length cp2) ∧ wx.cell? ⟨w2.heap.size + 1, 0, none⟩ = some (.int .i64 had) ∧ wx.cell? ⟨w2.heap.size + 1, 1, none⟩ = some (.bool ok) ∧ Ints wx a0 xs ∧ Ints wx p2 us ∧ Below w.heap.size w wx := by
        intro wx hb
        obtain ⟨c0, c1, c2, c3, c4, i0, s0, s1⟩ := HF.out wx (below_trans hbw4 hb)
        exact ⟨⟨c0, c1, c2, c3⟩, (X2.later hb).cell 0, (R2.later hb).cell 0, (R2.later hb).cell 1, i0, (HI2.out.later bW2).later hb, below_trans hbW (below_trans hbw4 hb)⟩
      have HG := Lib.hid hG
      clear hG c0 c1 c2 c3 c4 i0 s0 s1 X2 R2
      obtain ⟨⟨c0, c1, c2, c3⟩, x0, r0, r1, i0, i2, -⟩ := HG.out W2 (Below.refl _ _)
      obtain ⟨b, off, y, e1, -, e3, e4, -⟩ := i0.at_ i hil
      have hy : y = had := by have := HH.out; rw [e4] at this; injection this
      subst hy e1
      clear e4
      obtain ⟨b2, off2, y2, e2, -, -, -, -⟩ := i2.at_ i (by rw [HL.out]; exact hil)
      subst e2
      have n1 : ¬ ((i : Int) < 0) := by omega
      go_wp2_with fail
      go_quiet (fail)
      go_wp2_with fail
      have q1 : decide ((i : Int) < 0) = false := by rw [decide_eq_false_iff_not]; omega
      have q2 : decide (xs.length ≤ i) = false := by rw [decide_eq_false_iff_not]; omega
      simp only [q1, q2, Bool.or_false]
      clear q1 q2
      go_loopw [9] (fun v wr => ∃ j : Nat, j ≤ xs.length ∧ v = .int .i64 j ∧ Below W2.heap.size W2 wr) (fun v _ => xs.length - (intOf v).toNat)
      case atStart => exact ⟨0, Nat.zero_le _, rfl, below_drewN (Below.refl _ _) _⟩
      case round =>
        obtain ⟨j, hj, rfl, hb⟩ := hrel
        obtain ⟨⟨d0, d1, d2, d3⟩, x0', r0', r1', j0, j2, jb⟩ := HG.out wr hb
        clear c0 c1 c2 c3 x0 r0 r1 e3
        by_cases hlt : j < xs.length
        · by_cases hji : j = i
          · have h1 : ((j : Int) == (i : Int)) = true := by simp; omega
            have h2 : ((j : Int) != (i : Int)) = false := by simp; omega
            go_wp2_with fail
            go_quiet (fail)
            go_wp2_with fail
            go_roundw
            case rel => exact ⟨j + 1, by omega, by go_num, below_drewN hb _⟩
            case measure => simp [intOf]; omega
          · have h1 : ((j : Int) == (i : Int)) = false := by simp; omega
            have h2 : ((j : Int) != (i : Int)) = true := by simp; omega
            obtain ⟨bx, ox, x, e1, -, ex, ex1, -⟩ := j0.at_ j hlt
            obtain ⟨bu, ou, u, e2, -, eu, eu1, -⟩ := j2.at_ j (by rw [HL.out]; exact hlt)
            have hxu : x = u := by have := HN.out j hji; rw [ex1, eu1] at this; injection this with h; exact h.symm
            injection e1 with e1
            injection e1 with e1b e1o
            injection e2 with e2
            injection e2 with e2b e2o
            subst hxu e1b e1o e2b e2o
            clear ex1 eu1
            go_wp2_with fail
            go_quiet (fail)
            go_wp2_with fail
            go_roundw
            case rel => exact ⟨j + 1, by omega, by go_num, below_drewN hb _⟩
            case measure => simp [intOf]; omega
        · obtain rfl : j = xs.length := by omega
          obtain ⟨bx, ox, x, e1, -, ex, ex1, -⟩ := j0.at_ i hil
          obtain ⟨bu, ou, u, e2, -, eu, eu1, -⟩ := j2.at_ i (by rw [HL.out]; exact hil)
          have hxu : x = y := by have := HH.out; rw [ex1] at this; injection this
          injection e1 with e1
          injection e1 with e1b e1o
          injection e2 with e2
          injection e2 with e2b e2o
          subst hxu e1b e1o e2b e2o
          have hsame : k = 1 ∨ ok = false → u = x := fun h => by have := HS.out h; rw [ex1, eu1] at this; injection this
          have HS2 := Lib.hid hsame
          clear hsame ex1 eu1
          by_cases hk1 : k = 1
          · have hok := HK.out (by omega)
            have hu := HS2.out (.inl hk1)
            subst hk1 hok hu
            go_wp2_with fail
            go_quiet (fail)
            go_wp2_with fail
            go_ret
            exact ⟨rfl, below_drewN jb _⟩
          · have hk1' : (k == 1) = false := by simpa using hk1
            by_cases hk3 : k = 3
            · have hok := HK3.out hk3
              by_cases ho : x = o
              · replace hok : ok = true := by rw [hok]; simpa using ho
                subst hk3 ho hok
                go_wp2_with fail
                go_quiet (fail)
                go_wp2_with fail
                go_ret
                exact ⟨rfl, below_drewN jb _⟩
              · replace hok : ok = false := by rw [hok]; simpa using ho
                have hu := HS2.out (.inr hok)
                have ho' : (x == o) = false := by simpa using ho
                subst hk3 hok hu
                clear ho hk1 hk1'
                go_wp2_with fail
                go_quiet (fail)
                go_wp2_with fail
                go_ret
                exact ⟨rfl, below_drewN jb _⟩
            · have hk3' : (k == 3) = false := by simpa using hk3
              have hk3'' : (k != 3) = true := by simpa using hk3
              have hok := HK.out hk3
              subst hok
              go_wp2_with fail
              go_quiet (fail)
              go_wp2_with fail
              go_ret
              exact ⟨rfl, below_drewN jb _⟩
    · have hw := whyF_err he
      have e1 : doF xs k c o n = xs := by unfold doF; rw [if_neg he]
      have e2 : toldF xs k c o n = (0, false) := by unfold toldF; rw [if_neg he]
      have he' : (whyF xs.length k c o n == 0) = false := by simpa using he
      rw [e1] at hi2
      rw [e1, e2]
      clear e1 e2
      generalize whyF xs.length k c o n = err at *
      have HI2 := Lib.hid hi2
      clear hi2 he
      go_wp2_with fail
      obtain ⟨W2, hW2⟩ : ∃ W2, W2 = (w2.alloc (Obj.cells #[Value.slice p2 xs.length cp2] 24)).alloc (Obj.cells #[Value.int .i64 0, Value.bool false] 29) := ⟨_, rfl⟩
      have bW2 : Below w2.heap.size w2 W2 := by rw [hW2]; exact bel_alloc (bel_alloc (Below.refl _ _) _) _
      have X2 : Blk W2 w2.heap.size 24 #[Value.slice p2 xs.length cp2] := by rw [hW2]; exact (Blk.made _ _ _).alloc _
      have R2 : Blk W2 (w2.heap.size + 1) 29 #[Value.int .i64 0, Value.bool false] := by rw [hW2]; have := Blk.made (w2.alloc (Obj.cells #[Value.slice p2 xs.length cp2] 24)) 29 #[Value.int .i64 0, Value.bool false]; simpa [go_sem] using this
      have hbw4 := below_trans hbw2 bW2
      have i2 := HI2.out.later bW2
      have i0' := (HF.out W2 hbw4).2.2.2.2.2.1
      rw [← hW2]
      clear hW2
      refine (rsame_any p2 a0 xs xs cp2 cap0 W2 i2 i0' (by omega) (by omega)).mono ?_
      rintro e w3 ⟨rfl, hb3⟩
      have hd : decide (xs = xs) = true := by simp
      rw [hd]
      have R3 := (R2.later hb3).cell
      have r0 := R3 0
      have r1 := R3 1
      simp at r0 r1
      clear c0 c1 c2 c3 c4 i0 s0 s1 i2 i0' X2 R2 R3
      obtain ⟨c0, c1, c2, c3, c4, i0, s0, s1⟩ := HF.out w3 (below_trans hbw4 hb3)
      rcases hw with rfl | ⟨rfl, hlc⟩
      · go_wp2_with fail
        go_ret
        exact ⟨rfl, below_trans hbW (below_trans hbw4 hb3)⟩
      · go_wp2_with fail
        go_ret
        exact ⟨rfl, below_trans hbW (below_trans hbw4 hb3)⟩
  · have g1 : (100 : Int) < xs.length := by omega
    go_enter Try.func6, Try.ntmps6
    go_wp2_with fail
    rw [← HW.out]
    refine (shown_any _).mono ?_
    rintro e w1 ⟨rfl, hb1⟩
    obtain ⟨c0, c1, c2, c3, c4, i0, s0, s1⟩ := HF.out w1 hb1
    go_wp2_with fail
    go_ret
    exact ⟨rfl, below_trans hbW hb1⟩

end Go.Proofs.Ytnjpdgahjbijcaa
