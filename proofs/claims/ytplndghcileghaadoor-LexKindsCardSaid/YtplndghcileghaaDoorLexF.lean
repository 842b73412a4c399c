/-
  LEX: the first word of a text.
-/
import Derived.Test.YtplndghcileghaaDoorRows
import Derived.ProofKit
import Derived.Test.YtplndghcileghaaDoorLexK
import Derived.Test.YtplndghcileghaaDoorAfter
import Derived.Test.YtplndghcileghaaDoorBlk
import Derived.Test.YtplndghcileghaaDoorGet
import Derived.Deep.QuietTactic
import Derived.Laws.EntriesVeiled
import Derived.BigQuiet
import Derived.BigRegion
namespace Go.Proofs.YtplndghcileghaaDoor
open Go.ChangeShapes Go.WideShapes Go.ChangeAt Go.RowKit

/-- a token with nothing in it -/
def tokZ : Array Value := #[.int .i64 0, .string ⟨#[]⟩, .int .i64 0, .int .i64 0]

theorem tok_put {W : World} {b : Nat} {a0 a1 a2 a3 : Value} (h : Blk W b 30 #[a0, a1, a2, a3]) (v0 v1 v2 v3 : Value) :
    Blk ((((W.setCell ⟨b, 0, none⟩ v0).setCell ⟨b, 1, none⟩ v1).setCell ⟨b, 2, none⟩ v2).setCell ⟨b, 3, none⟩ v3) b 30 #[v0, v1, v2, v3] :=
  (((h.put 0 v0).put 1 v1).put 2 v2).put 3 v3
theorem tok_below {B : Nat} {w W : World} (h : Below B w W) (b : Nat) (hb : B ≤ b) (v0 v1 v2 v3 : Value) :
    Below B w ((((W.setCell ⟨b, 0, none⟩ v0).setCell ⟨b, 1, none⟩ v1).setCell ⟨b, 2, none⟩ v2).setCell ⟨b, 3, none⟩ v3) :=
  (((h.setCell hb v0).setCell hb v1).setCell hb v2).setCell hb v3

set_option maxRecDepth 100000 in
set_option maxHeartbeats 2000000 in
theorem first_any (s : ByteArray) (hs : 1 ≤ s.size) (hs2 : s.size ≤ 4000) (bk T : Nat) (w : World) (hc : Blk w bk T finderCells) :
    Calls Tryd.prog 20 #[.slice (some ⟨bk, 0, none⟩) 3 3, .string s] w fun e w' => e = .returned (firstE s) ∧ Below w.heap.size w w' := by
  have hbk : bk < w.heap.size := hc.lt
  obtain ⟨c0, hc0⟩ : ∃ c0 : Nat, (s[0]'(by omega)).toNat = c0 := ⟨_, rfl⟩
  have hw0 : wrap32 (c0 : Int) = (c0 : Int) := by
    have := (s[0]'(by omega)).toNat_lt
    unfold wrap32; omega
  have HC := Lib.hid hc
  clear hc
  go_enter Tryd.func20, Tryd.ntmps20
  go_wp2_with fail
  go_loopw [12] (fun n w' => ∃ i : Nat, n = .int .i64 i ∧ i ≤ 3 ∧ Below w.heap.size w w' ∧ Blk w' w.heap.size 30 tokZ ∧ Hid ((1 ≤ i → letterB c0 = false) ∧ (2 ≤ i → digitB c0 = false) ∧ (3 ≤ i → signB c0 = false))) (fun n _ => 3 - (intOf n).toNat)
  case atStart => exact ⟨0, rfl, by omega, (Below.refl _ w).alloc (Nat.le_refl _) _, Blk.made w 30 tokZ, Lib.hid ⟨fun h => absurd h (by decide), fun h => absurd h (by decide), fun h => absurd h (by decide)⟩⟩
  case round =>
    obtain ⟨i, rfl, hi, hb, hz, HI⟩ := hrel
    rename_i wr
    have HF := Lib.hid (HC.out.under hb hbk)
    have hsz := hb.size
    rcases (show i = 0 ∨ i = 1 ∨ i = 2 ∨ i = 3 by omega) with rfl | rfl | rfl | rfl
    · have f0 : wr.cell? ⟨bk, 0, none⟩ = some (.int .i64 1) := HF.out.cell 0
      have f1 : wr.cell? ⟨bk, 1, none⟩ = some (.func (Fn.func 25) #[] #[]) := HF.out.cell 1
      have f2 : wr.cell? ⟨bk, 2, none⟩ = some (.func (Fn.func 26) #[] #[]) := HF.out.cell 2
      have f3 : wr.cell? ⟨bk, 3, none⟩ = some (.func (Fn.func 27) #[] #[]) := HF.out.cell 3
      go_wp2_with fail
      obtain ⟨W0, hW0⟩ : ∃ W0, W0 = wr.alloc (.cells #[.int .i64 1, .func (Fn.func 25) #[] #[], .func (Fn.func 26) #[] #[], .func (Fn.func 27) #[] #[]] 51) := ⟨_, rfl⟩
      rw [← hW0]
      have H7 : Blk W0 wr.heap.size 51 #[.int .i64 1, .func (Fn.func 25) #[] #[], .func (Fn.func 26) #[] #[], .func (Fn.func 27) #[] #[]] := by rw [hW0]; exact Blk.made wr 51 _
      have hz0 : Blk W0 w.heap.size 30 tokZ := by rw [hW0]; exact hz.alloc _
      have hb0 : Below w.heap.size w W0 := by rw [hW0]; exact hb.alloc hb.size _
      have hs0 : W0.heap.size = wr.heap.size + 1 := by rw [hW0]; exact Array.size_push _
      clear hW0 f0 f1 f2 f3
      have g0 : W0.cell? ⟨wr.heap.size, 0, none⟩ = some (.int .i64 1) := H7.cell 0
      have g1 : W0.cell? ⟨wr.heap.size, 1, none⟩ = some (.func (Fn.func 25) #[] #[]) := H7.cell 1
      have g2 : W0.cell? ⟨wr.heap.size, 2, none⟩ = some (.func (Fn.func 26) #[] #[]) := H7.cell 2
      have g3 : W0.cell? ⟨wr.heap.size, 3, none⟩ = some (.func (Fn.func 27) #[] #[]) := H7.cell 3
      have hq0 : (0 : Int) < (s.size : Int) := by omega
      have hq1 : 0 < s.size := by omega
      go_quiet ((go_at_call 25; refine Calls.quiet_of_same (letter_any _ _)))
      rw [hw0]
      have hzq := hz0.drawn nq
      have hbq : Below w.heap.size w (W0.drewN nq) := below_drewN hb0 nq
      cases hl : letterB (c0 : Int)
      · have HL := Lib.hid hl
        clear hl
        go_wp2_with fail
        go_roundw
        case rel => exact ⟨1, rfl, by omega, hbq, hzq, Lib.hid ⟨fun _ => HL.out, fun h => absurd h (by decide), fun h => absurd h (by decide)⟩⟩
        case measure => simp [intOf]
      · have HL := Lib.hid hl
        clear hl
        go_wp2_with fail
        refine (nameLength_any s _).mono ?_
        rintro e w2 ⟨rfl, hb2⟩
        have k0 : w2.cell? ⟨wr.heap.size, 0, none⟩ = some (.int .i64 1) := (H7.drawn nq |>.later hb2).cell 0
        have k3 : w2.cell? ⟨wr.heap.size, 3, none⟩ = some (.func (Fn.func 27) #[] #[]) := (H7.drawn nq |>.later hb2).cell 3
        have hz2 := hzq.later hb2
        have hspan : spanF inNameB (strB s) ≤ s.size := by have := spanF_le inNameB (strB s); rwa [strB_length] at this
        obtain ⟨n, hn⟩ : ∃ n, n = spanF inNameB (strB s) := ⟨_, rfl⟩
        rw [← hn] at hspan ⊢
        have HN := Lib.hid hn
        clear hn
        have k0a : ∀ o, (w2.alloc o).cell? ⟨wr.heap.size, 0, none⟩ = some (.int .i64 1) := fun o => get_alloc k0
        go_wp2_with fail
        go_region
        obtain ⟨W1, hW1⟩ : ∃ W1, W1 = (w2.alloc (.cells #[.int .i64 1, .string (s.extract 0 n), .int .i64 0, .int .i64 0] 30)).drew := ⟨_, rfl⟩
        rw [← hW1]
        have B1 : Below w2.heap.size w2 W1 := by rw [hW1]; exact ((Below.refl _ w2).alloc (Nat.le_refl _) _).drew
        have HT : Blk W1 w2.heap.size 30 #[.int .i64 1, .string (s.extract 0 n), .int .i64 0, .int .i64 0] := by rw [hW1]; exact Blk.made w2 30 _
        have bw1 : Below w.heap.size w W1 := (hbq.trans (hb2.mono hbq.size)).trans (B1.mono (Nat.le_trans hbq.size hb2.size))
        have hz1 := hz2.later B1
        clear hW1
        have hsz7 : wr.heap.size < w2.heap.size := Nat.lt_of_lt_of_le (by have := (H7.drawn nq).lt; exact this) hb2.size
        have m0 : W1.cell? ⟨wr.heap.size, 0, none⟩ = some (.int .i64 1) := (B1.cell (p := ⟨wr.heap.size, 0, none⟩) hsz7).trans k0
        have m3 : W1.cell? ⟨wr.heap.size, 3, none⟩ = some (.func (Fn.func 27) #[] #[]) := (B1.cell (p := ⟨wr.heap.size, 3, none⟩) hsz7).trans k3
        have hx : (s.extract 0 n).size = n := by rw [ByteArray.size_extract]; omega
        go_wp2_with fail
        go_quiet ((go_at_call 27; refine Calls.quiet_of_same (nameMayBe_any _ _ _)))
        rw [hx]
        have r0 : W1.cell? ⟨w.heap.size, 0, none⟩ = some (.int .i64 0) := hz1.cell 0
        have r1 : W1.cell? ⟨w.heap.size, 1, none⟩ = some (.string ⟨#[]⟩) := hz1.cell 1
        have r2 : W1.cell? ⟨w.heap.size, 2, none⟩ = some (.int .i64 0) := hz1.cell 2
        have r3 : W1.cell? ⟨w.heap.size, 3, none⟩ = some (.int .i64 0) := hz1.cell 3
        have q0 := hz1.free 0
        have q1 := hz1.free 1
        have q2 := hz1.free 2
        have q3 := hz1.free 3
        have t0 : W1.cell? ⟨w2.heap.size, 0, none⟩ = some (.int .i64 1) := HT.cell 0
        have t1 : W1.cell? ⟨w2.heap.size, 1, none⟩ = some (.string (s.extract 0 n)) := HT.cell 1
        have t2 : W1.cell? ⟨w2.heap.size, 2, none⟩ = some (.int .i64 0) := HT.cell 2
        have t3 : W1.cell? ⟨w2.heap.size, 3, none⟩ = some (.int .i64 0) := HT.cell 3
        cases h12 : decide ((n : Int) ≤ 12)
        · go_wp2_with fail
          have E := tok_put (hz1.drawn nq) (.int .i64 0) (.string ⟨#[]⟩) (.int .i64 0) (.int .i64 0)
          have EB := tok_below (below_drewN bw1 nq) w.heap.size (Nat.le_refl _) (.int .i64 0) (.string ⟨#[]⟩) (.int .i64 0) (.int .i64 0)
          obtain ⟨WE, hWE⟩ : ∃ WE, WE = ((((W1.drewN nq).setCell ⟨w.heap.size, 0, none⟩ (.int .i64 0)).setCell ⟨w.heap.size, 1, none⟩ (.string ⟨#[]⟩)).setCell ⟨w.heap.size, 2, none⟩ (.int .i64 0)).setCell ⟨w.heap.size, 3, none⟩ (.int .i64 0) := ⟨_, rfl⟩
          rw [← hWE] at E EB ⊢
          clear hWE
          have e0 : WE.cell? ⟨w.heap.size, 0, none⟩ = some _ := E.cell 0
          have e1 : WE.cell? ⟨w.heap.size, 1, none⟩ = some _ := E.cell 1
          have e2 : WE.cell? ⟨w.heap.size, 2, none⟩ = some _ := E.cell 2
          have e3 : WE.cell? ⟨w.heap.size, 3, none⟩ = some _ := E.cell 3
          refine bodyPost_ret (v := .tuple #[.agg #[.int .i64 0, .string ⟨#[]⟩, .int .i64 0, .int .i64 0], .bool false]) (by simp [results, Tryd.results20, go_sem, e0, e1, e2, e3]) rfl ?_
          exact ⟨by rw [firstE_name hq1 hc0 HL.out n HN.out, h12]; rfl, EB⟩
        · go_wp2_with fail
          have E := tok_put (hz1.drawn nq) (.int .i64 1) (.string (s.extract 0 n)) (.int .i64 0) (.int .i64 0)
          have EB := tok_below (below_drewN bw1 nq) w.heap.size (Nat.le_refl _) (.int .i64 1) (.string (s.extract 0 n)) (.int .i64 0) (.int .i64 0)
          obtain ⟨WE, hWE⟩ : ∃ WE, WE = ((((W1.drewN nq).setCell ⟨w.heap.size, 0, none⟩ (.int .i64 1)).setCell ⟨w.heap.size, 1, none⟩ (.string (s.extract 0 n))).setCell ⟨w.heap.size, 2, none⟩ (.int .i64 0)).setCell ⟨w.heap.size, 3, none⟩ (.int .i64 0) := ⟨_, rfl⟩
          rw [← hWE] at E EB ⊢
          clear hWE
          have e0 : WE.cell? ⟨w.heap.size, 0, none⟩ = some _ := E.cell 0
          have e1 : WE.cell? ⟨w.heap.size, 1, none⟩ = some _ := E.cell 1
          have e2 : WE.cell? ⟨w.heap.size, 2, none⟩ = some _ := E.cell 2
          have e3 : WE.cell? ⟨w.heap.size, 3, none⟩ = some _ := E.cell 3
          refine bodyPost_ret (v := .tuple #[.agg #[.int .i64 1, .string (s.extract 0 n), .int .i64 0, .int .i64 0], .bool true]) (by simp [results, Tryd.results20, go_sem, e0, e1, e2, e3]) rfl ?_
          exact ⟨by rw [firstE_name hq1 hc0 HL.out n HN.out, h12]; rfl, EB⟩
    · have f0 : wr.cell? ⟨bk, 4, none⟩ = some (.int .i64 2) := HF.out.cell 4
      have f1 : wr.cell? ⟨bk, 5, none⟩ = some (.func (Fn.func 28) #[] #[]) := HF.out.cell 5
      have f2 : wr.cell? ⟨bk, 6, none⟩ = some (.func (Fn.func 29) #[] #[]) := HF.out.cell 6
      have f3 : wr.cell? ⟨bk, 7, none⟩ = some (.func (Fn.func 30) #[] #[]) := HF.out.cell 7
      go_wp2_with fail
      obtain ⟨W0, hW0⟩ : ∃ W0, W0 = wr.alloc (.cells #[.int .i64 2, .func (Fn.func 28) #[] #[], .func (Fn.func 29) #[] #[], .func (Fn.func 30) #[] #[]] 51) := ⟨_, rfl⟩
      rw [← hW0]
      have H7 : Blk W0 wr.heap.size 51 #[.int .i64 2, .func (Fn.func 28) #[] #[], .func (Fn.func 29) #[] #[], .func (Fn.func 30) #[] #[]] := by rw [hW0]; exact Blk.made wr 51 _
      have hz0 : Blk W0 w.heap.size 30 tokZ := by rw [hW0]; exact hz.alloc _
      have hb0 : Below w.heap.size w W0 := by rw [hW0]; exact hb.alloc hb.size _
      have hs0 : W0.heap.size = wr.heap.size + 1 := by rw [hW0]; exact Array.size_push _
      clear hW0 f0 f1 f2 f3
      have g0 : W0.cell? ⟨wr.heap.size, 0, none⟩ = some (.int .i64 2) := H7.cell 0
      have g1 : W0.cell? ⟨wr.heap.size, 1, none⟩ = some (.func (Fn.func 28) #[] #[]) := H7.cell 1
      have g2 : W0.cell? ⟨wr.heap.size, 2, none⟩ = some (.func (Fn.func 29) #[] #[]) := H7.cell 2
      have g3 : W0.cell? ⟨wr.heap.size, 3, none⟩ = some (.func (Fn.func 30) #[] #[]) := H7.cell 3
      have hq0 : (0 : Int) < (s.size : Int) := by omega
      have hq1 : 0 < s.size := by omega
      go_quiet ((go_at_call 28; refine Calls.quiet_of_same (digit_any _ _)))
      rw [hw0]
      have hzq := hz0.drawn nq
      have hbq : Below w.heap.size w (W0.drewN nq) := below_drewN hb0 nq
      cases hl : digitB (c0 : Int)
      · have HL := Lib.hid hl
        clear hl
        go_wp2_with fail
        go_roundw
        case rel => exact ⟨2, rfl, by omega, hbq, hzq, Lib.hid ⟨fun _ => HI.out.1 (by omega), fun _ => HL.out, fun h => absurd h (by decide)⟩⟩
        case measure => simp [intOf]
      · have HL := Lib.hid hl
        clear hl
        go_wp2_with fail
        refine (numberLength_any s _).mono ?_
        rintro e w2 ⟨rfl, hb2⟩
        have k0 : w2.cell? ⟨wr.heap.size, 0, none⟩ = some (.int .i64 2) := (H7.drawn nq |>.later hb2).cell 0
        have k3 : w2.cell? ⟨wr.heap.size, 3, none⟩ = some (.func (Fn.func 30) #[] #[]) := (H7.drawn nq |>.later hb2).cell 3
        have hz2 := hzq.later hb2
        have hspan : spanF digitB (strB s) ≤ s.size := by have := spanF_le digitB (strB s); rwa [strB_length] at this
        obtain ⟨n, hn⟩ : ∃ n, n = spanF digitB (strB s) := ⟨_, rfl⟩
        rw [← hn] at hspan ⊢
        have HN := Lib.hid hn
        clear hn
        have k0a : ∀ o, (w2.alloc o).cell? ⟨wr.heap.size, 0, none⟩ = some (.int .i64 2) := fun o => get_alloc k0
        go_wp2_with fail
        go_region
        obtain ⟨W1, hW1⟩ : ∃ W1, W1 = (w2.alloc (.cells #[.int .i64 2, .string (s.extract 0 n), .int .i64 0, .int .i64 0] 30)).drew := ⟨_, rfl⟩
        rw [← hW1]
        have B1 : Below w2.heap.size w2 W1 := by rw [hW1]; exact ((Below.refl _ w2).alloc (Nat.le_refl _) _).drew
        have HT : Blk W1 w2.heap.size 30 #[.int .i64 2, .string (s.extract 0 n), .int .i64 0, .int .i64 0] := by rw [hW1]; exact Blk.made w2 30 _
        have bw1 : Below w.heap.size w W1 := (hbq.trans (hb2.mono hbq.size)).trans (B1.mono (Nat.le_trans hbq.size hb2.size))
        have hz1 := hz2.later B1
        clear hW1
        have hsz7 : wr.heap.size < w2.heap.size := Nat.lt_of_lt_of_le (by have := (H7.drawn nq).lt; exact this) hb2.size
        have m0 : W1.cell? ⟨wr.heap.size, 0, none⟩ = some (.int .i64 2) := (B1.cell (p := ⟨wr.heap.size, 0, none⟩) hsz7).trans k0
        have m3 : W1.cell? ⟨wr.heap.size, 3, none⟩ = some (.func (Fn.func 30) #[] #[]) := (B1.cell (p := ⟨wr.heap.size, 3, none⟩) hsz7).trans k3
        have hx : (s.extract 0 n).size = n := by rw [ByteArray.size_extract]; omega
        go_wp2_with fail
        obtain ⟨hfe, hat, hx1⟩ := firstE_num hq1 hc0 (HI.out.1 (by omega)) HL.out n HN.out
        obtain ⟨v, hv⟩ : ∃ v : Nat, numV (s.extract 0 n).data.toList = v := ⟨_, rfl⟩
        rw [hv] at hfe hat
        obtain ⟨g, hg⟩ : ∃ g, (!longB (s.extract 0 n) && decide ((v : Int) < 4294967296) && behindB (s.extract n s.size)) = g := ⟨_, rfl⟩
        rw [hg] at hfe
        have HA := Lib.hid hat
        have HE := Lib.hid hfe
        have HG := Lib.hid hg
        have hx10 : Hid (g = true → (s.extract 0 n).size ≤ 18) := by
          refine Lib.hid (fun hgt => ?_)
          rw [hgt] at hg
          simp only [Bool.and_eq_true] at hg
          have h := hg.1.1
          unfold longB at h
          simp at h
          have := h.1
          rw [hx]
          omega
        clear hat hfe hg
        have HM : ∀ wx, Calls Tryd.prog 30 #[.string (s.extract 0 n), .string (s.extract n s.size)] wx fun e w' => e = .returned (.bool g) ∧ Below wx.heap.size wx w' := by
          intro wx
          have := numberMayBe_any (s.extract 0 n) (s.extract n s.size) v HA.out hx1 wx
          rw [HG.out] at this
          exact this
        have HMh := Lib.hid HM
        clear HM
        have m3x : ∀ x : After W1, x.w.cell? ⟨wr.heap.size, 3, none⟩ = some (.func (Fn.func 30) #[] #[]) := fun x => (x.cell (Nat.lt_of_lt_of_le hsz7 B1.size)).trans m3
        refine wp_region_after (by kernel_rfl) (by kernel_rfl) ?_
        repeat (go_big_quiet_step (first
          | (go_at_call 30; exact calls_after (HMh.out _))))
        refine wpQuiet_nil ?_
        rintro _ ⟨y, rfl⟩
        obtain ⟨W2, hW2⟩ : ∃ W2, W2 = y.w := ⟨_, rfl⟩
        have B2 : Below W1.heap.size W1 W2 := by rw [hW2]; exact y.bel
        rw [← hW2]
        clear hW2 m3x y
        have bw2 : Below w.heap.size w W2 := bw1.trans (B2.mono bw1.size)
        have hz2' := hz1.later B2
        have HT2 := HT.later B2
        have m0' : W2.cell? ⟨wr.heap.size, 0, none⟩ = some (.int .i64 2) := (B2.cell (p := ⟨wr.heap.size, 0, none⟩) (Nat.lt_of_lt_of_le hsz7 B1.size)).trans m0
        have r0 : W2.cell? ⟨w.heap.size, 0, none⟩ = some (.int .i64 0) := hz2'.cell 0
        have r1 : W2.cell? ⟨w.heap.size, 1, none⟩ = some (.string ⟨#[]⟩) := hz2'.cell 1
        have r2 : W2.cell? ⟨w.heap.size, 2, none⟩ = some (.int .i64 0) := hz2'.cell 2
        have r3 : W2.cell? ⟨w.heap.size, 3, none⟩ = some (.int .i64 0) := hz2'.cell 3
        have q0 := hz2'.free 0
        have q1 := hz2'.free 1
        have q2 := hz2'.free 2
        have q3 := hz2'.free 3
        have t0 : W2.cell? ⟨w2.heap.size, 0, none⟩ = some (.int .i64 2) := HT2.cell 0
        have t1 : W2.cell? ⟨w2.heap.size, 1, none⟩ = some (.string (s.extract 0 n)) := HT2.cell 1
        have t2 : W2.cell? ⟨w2.heap.size, 2, none⟩ = some (.int .i64 0) := HT2.cell 2
        have t3 : W2.cell? ⟨w2.heap.size, 3, none⟩ = some (.int .i64 0) := HT2.cell 3
        cases hgg : g
        · go_wp2_with fail
          have E := tok_put hz2' (.int .i64 0) (.string ⟨#[]⟩) (.int .i64 0) (.int .i64 0)
          have EB := tok_below bw2 w.heap.size (Nat.le_refl _) (.int .i64 0) (.string ⟨#[]⟩) (.int .i64 0) (.int .i64 0)
          obtain ⟨WE, hWE⟩ : ∃ WE, WE = (((W2.setCell ⟨w.heap.size, 0, none⟩ (.int .i64 0)).setCell ⟨w.heap.size, 1, none⟩ (.string ⟨#[]⟩)).setCell ⟨w.heap.size, 2, none⟩ (.int .i64 0)).setCell ⟨w.heap.size, 3, none⟩ (.int .i64 0) := ⟨_, rfl⟩
          rw [← hWE] at E EB ⊢
          clear hWE
          have e0 : WE.cell? ⟨w.heap.size, 0, none⟩ = some _ := E.cell 0
          have e1 : WE.cell? ⟨w.heap.size, 1, none⟩ = some _ := E.cell 1
          have e2 : WE.cell? ⟨w.heap.size, 2, none⟩ = some _ := E.cell 2
          have e3 : WE.cell? ⟨w.heap.size, 3, none⟩ = some _ := E.cell 3
          refine bodyPost_ret (v := .tuple #[.agg #[.int .i64 0, .string ⟨#[]⟩, .int .i64 0, .int .i64 0], .bool false]) (by simp [results, Tryd.results20, go_sem, e0, e1, e2, e3]) rfl ?_
          exact ⟨by rw [HE.out, hgg]; rfl, EB⟩
        · have h18 := Lib.hid (hx10.out hgg)
          go_wp2_with fail
          refine (Tryd.strconv_Atoi (s.extract 0 n) v h18.out HA.out _).mono ?_
          rintro e w3 ⟨rfl, tt, hw⟩
          have B3 : Below W2.heap.size W2 w3 := by rw [hw]; exact Lib.bytesWorld_below _ _ _
          clear hw t0 t1 t2 t3 r0 r1 r2 r3 q0 q1 q2 q3 m0'
          have bw3 : Below w.heap.size w w3 := bw2.trans (B3.mono bw2.size)
          have hz3 := hz2'.later B3
          have HT3 := HT2.later B3
          have hne : w.heap.size ≠ w2.heap.size := by
            have h1 := hz0.lt
            have h2 := H7.lt
            omega
          have f2 := HT3.free 2
          have t0 : (w3.setCell ⟨w2.heap.size, 2, none⟩ (.int .i64 v)).cell? ⟨w2.heap.size, 0, none⟩ = some (.int .i64 2) := (HT3.put 2 (.int .i64 v)).cell 0
          have t1 : (w3.setCell ⟨w2.heap.size, 2, none⟩ (.int .i64 v)).cell? ⟨w2.heap.size, 1, none⟩ = some (.string (s.extract 0 n)) := (HT3.put 2 (.int .i64 v)).cell 1
          have t2 : (w3.setCell ⟨w2.heap.size, 2, none⟩ (.int .i64 v)).cell? ⟨w2.heap.size, 2, none⟩ = some (.int .i64 v) := (HT3.put 2 (.int .i64 v)).cell 2
          have t3 : (w3.setCell ⟨w2.heap.size, 2, none⟩ (.int .i64 v)).cell? ⟨w2.heap.size, 3, none⟩ = some (.int .i64 0) := (HT3.put 2 (.int .i64 v)).cell 3
          have u2 : w3.cell? ⟨w2.heap.size, 2, none⟩ = some (.int .i64 0) := HT3.cell 2
          have hz4 : Blk (w3.setCell ⟨w2.heap.size, 2, none⟩ (.int .i64 v)) w.heap.size 30 tokZ := hz3.far hne _
          have bw4 : Below w.heap.size w (w3.setCell ⟨w2.heap.size, 2, none⟩ (.int .i64 v)) := bw3.setCell (by show w.heap.size ≤ w2.heap.size; exact Nat.le_trans hbq.size hb2.size) _
          have r0 : (w3.setCell ⟨w2.heap.size, 2, none⟩ (.int .i64 v)).cell? ⟨w.heap.size, 0, none⟩ = some (.int .i64 0) := hz4.cell 0
          have r1 : (w3.setCell ⟨w2.heap.size, 2, none⟩ (.int .i64 v)).cell? ⟨w.heap.size, 1, none⟩ = some (.string ⟨#[]⟩) := hz4.cell 1
          have r2 : (w3.setCell ⟨w2.heap.size, 2, none⟩ (.int .i64 v)).cell? ⟨w.heap.size, 2, none⟩ = some (.int .i64 0) := hz4.cell 2
          have r3 : (w3.setCell ⟨w2.heap.size, 2, none⟩ (.int .i64 v)).cell? ⟨w.heap.size, 3, none⟩ = some (.int .i64 0) := hz4.cell 3
          have q0 := hz4.free 0
          have q1 := hz4.free 1
          have q2 := hz4.free 2
          have q3 := hz4.free 3
          go_wp2_with fail
          have E := tok_put hz4 (.int .i64 2) (.string (s.extract 0 n)) (.int .i64 v) (.int .i64 0)
          have EB := tok_below bw4 w.heap.size (Nat.le_refl _) (.int .i64 2) (.string (s.extract 0 n)) (.int .i64 v) (.int .i64 0)
          obtain ⟨WE, hWE⟩ : ∃ WE, WE = ((((w3.setCell ⟨w2.heap.size, 2, none⟩ (.int .i64 v)).setCell ⟨w.heap.size, 0, none⟩ (.int .i64 2)).setCell ⟨w.heap.size, 1, none⟩ (.string (s.extract 0 n))).setCell ⟨w.heap.size, 2, none⟩ (.int .i64 v)).setCell ⟨w.heap.size, 3, none⟩ (.int .i64 0) := ⟨_, rfl⟩
          rw [← hWE] at E EB ⊢
          clear hWE
          have e0 : WE.cell? ⟨w.heap.size, 0, none⟩ = some _ := E.cell 0
          have e1 : WE.cell? ⟨w.heap.size, 1, none⟩ = some _ := E.cell 1
          have e2 : WE.cell? ⟨w.heap.size, 2, none⟩ = some _ := E.cell 2
          have e3 : WE.cell? ⟨w.heap.size, 3, none⟩ = some _ := E.cell 3
          refine bodyPost_ret (v := .tuple #[.agg #[.int .i64 2, .string (s.extract 0 n), .int .i64 v, .int .i64 0], .bool true]) (by simp [results, Tryd.results20, go_sem, e0, e1, e2, e3]) rfl ?_
          exact ⟨by rw [HE.out, hgg]; rfl, EB⟩
    · have f0 : wr.cell? ⟨bk, 8, none⟩ = some (.int .i64 3) := HF.out.cell 8
      have f1 : wr.cell? ⟨bk, 9, none⟩ = some (.func (Fn.func 31) #[] #[]) := HF.out.cell 9
      have f2 : wr.cell? ⟨bk, 10, none⟩ = some (.func (Fn.func 32) #[] #[]) := HF.out.cell 10
      have f3 : wr.cell? ⟨bk, 11, none⟩ = some (.func (Fn.func 33) #[] #[]) := HF.out.cell 11
      go_wp2_with fail
      obtain ⟨W0, hW0⟩ : ∃ W0, W0 = wr.alloc (.cells #[.int .i64 3, .func (Fn.func 31) #[] #[], .func (Fn.func 32) #[] #[], .func (Fn.func 33) #[] #[]] 51) := ⟨_, rfl⟩
      rw [← hW0]
      have H7 : Blk W0 wr.heap.size 51 #[.int .i64 3, .func (Fn.func 31) #[] #[], .func (Fn.func 32) #[] #[], .func (Fn.func 33) #[] #[]] := by rw [hW0]; exact Blk.made wr 51 _
      have hz0 : Blk W0 w.heap.size 30 tokZ := by rw [hW0]; exact hz.alloc _
      have hb0 : Below w.heap.size w W0 := by rw [hW0]; exact hb.alloc hb.size _
      have hs0 : W0.heap.size = wr.heap.size + 1 := by rw [hW0]; exact Array.size_push _
      clear hW0 f0 f1 f2 f3
      have g0 : W0.cell? ⟨wr.heap.size, 0, none⟩ = some (.int .i64 3) := H7.cell 0
      have g1 : W0.cell? ⟨wr.heap.size, 1, none⟩ = some (.func (Fn.func 31) #[] #[]) := H7.cell 1
      have g2 : W0.cell? ⟨wr.heap.size, 2, none⟩ = some (.func (Fn.func 32) #[] #[]) := H7.cell 2
      have g3 : W0.cell? ⟨wr.heap.size, 3, none⟩ = some (.func (Fn.func 33) #[] #[]) := H7.cell 3
      have hq0 : (0 : Int) < (s.size : Int) := by omega
      have hq1 : 0 < s.size := by omega
      go_quiet ((go_at_call 31; refine Calls.quiet_of_same (sign_any _ (by omega) _)))
      rw [hw0]
      have hzq := hz0.drawn nq
      have hbq : Below w.heap.size w (W0.drewN nq) := below_drewN hb0 nq
      cases hl : signB (c0 : Int)
      · have HL := Lib.hid hl
        clear hl
        go_wp2_with fail
        go_roundw
        case rel => exact ⟨3, rfl, by omega, hbq, hzq, Lib.hid ⟨fun _ => HI.out.1 (by omega), fun _ => HI.out.2.1 (by omega), fun _ => HL.out⟩⟩
        case measure => simp [intOf]
      · have HL := Lib.hid hl
        clear hl
        go_wp2_with fail
        refine (signLength_any s _).mono ?_
        rintro e w2 ⟨rfl, hw2⟩
        have hb2 : Below (W0.drewN nq).heap.size (W0.drewN nq) w2 := by rw [hw2]; exact Below.refl _ _
        clear hw2
        have k0 : w2.cell? ⟨wr.heap.size, 0, none⟩ = some (.int .i64 3) := (H7.drawn nq |>.later hb2).cell 0
        have k3 : w2.cell? ⟨wr.heap.size, 3, none⟩ = some (.func (Fn.func 33) #[] #[]) := (H7.drawn nq |>.later hb2).cell 3
        have hz2 := hzq.later hb2
        obtain ⟨n, hn, hspan⟩ := signLen_le s hs
        rw [hn]
        have HN := Lib.hid hn
        clear hn
        have k0a : ∀ o, (w2.alloc o).cell? ⟨wr.heap.size, 0, none⟩ = some (.int .i64 3) := fun o => get_alloc k0
        go_wp2_with fail
        go_region
        obtain ⟨W1, hW1⟩ : ∃ W1, W1 = (w2.alloc (.cells #[.int .i64 3, .string (s.extract 0 n), .int .i64 0, .int .i64 0] 30)).drew := ⟨_, rfl⟩
        rw [← hW1]
        have B1 : Below w2.heap.size w2 W1 := by rw [hW1]; exact ((Below.refl _ w2).alloc (Nat.le_refl _) _).drew
        have HT : Blk W1 w2.heap.size 30 #[.int .i64 3, .string (s.extract 0 n), .int .i64 0, .int .i64 0] := by rw [hW1]; exact Blk.made w2 30 _
        have bw1 : Below w.heap.size w W1 := (hbq.trans (hb2.mono hbq.size)).trans (B1.mono (Nat.le_trans hbq.size hb2.size))
        have hz1 := hz2.later B1
        clear hW1
        have hsz7 : wr.heap.size < w2.heap.size := Nat.lt_of_lt_of_le (by have := (H7.drawn nq).lt; exact this) hb2.size
        have m0 : W1.cell? ⟨wr.heap.size, 0, none⟩ = some (.int .i64 3) := (B1.cell (p := ⟨wr.heap.size, 0, none⟩) hsz7).trans k0
        have m3 : W1.cell? ⟨wr.heap.size, 3, none⟩ = some (.func (Fn.func 33) #[] #[]) := (B1.cell (p := ⟨wr.heap.size, 3, none⟩) hsz7).trans k3
        have hx : (s.extract 0 n).size = n := by rw [ByteArray.size_extract]; omega
        go_wp2_with fail
        go_quiet ((go_at_call 33; refine Calls.quiet_of_same (signMayBe_any _ _ _)))
        have r0 : W1.cell? ⟨w.heap.size, 0, none⟩ = some (.int .i64 0) := hz1.cell 0
        have r1 : W1.cell? ⟨w.heap.size, 1, none⟩ = some (.string ⟨#[]⟩) := hz1.cell 1
        have r2 : W1.cell? ⟨w.heap.size, 2, none⟩ = some (.int .i64 0) := hz1.cell 2
        have r3 : W1.cell? ⟨w.heap.size, 3, none⟩ = some (.int .i64 0) := hz1.cell 3
        have q0 := hz1.free 0
        have q1 := hz1.free 1
        have q2 := hz1.free 2
        have q3 := hz1.free 3
        have t0 : W1.cell? ⟨w2.heap.size, 0, none⟩ = some (.int .i64 3) := HT.cell 0
        have t1 : W1.cell? ⟨w2.heap.size, 1, none⟩ = some (.string (s.extract 0 n)) := HT.cell 1
        have t2 : W1.cell? ⟨w2.heap.size, 2, none⟩ = some (.int .i64 0) := HT.cell 2
        have t3 : W1.cell? ⟨w2.heap.size, 3, none⟩ = some (.int .i64 0) := HT.cell 3
        go_wp2_with fail
        have E := tok_put (hz1.drawn nq) (.int .i64 3) (.string (s.extract 0 n)) (.int .i64 0) (.int .i64 0)
        have EB := tok_below (below_drewN bw1 nq) w.heap.size (Nat.le_refl _) (.int .i64 3) (.string (s.extract 0 n)) (.int .i64 0) (.int .i64 0)
        obtain ⟨WE, hWE⟩ : ∃ WE, WE = ((((W1.drewN nq).setCell ⟨w.heap.size, 0, none⟩ (.int .i64 3)).setCell ⟨w.heap.size, 1, none⟩ (.string (s.extract 0 n))).setCell ⟨w.heap.size, 2, none⟩ (.int .i64 0)).setCell ⟨w.heap.size, 3, none⟩ (.int .i64 0) := ⟨_, rfl⟩
        rw [← hWE] at E EB ⊢
        clear hWE
        have e0 : WE.cell? ⟨w.heap.size, 0, none⟩ = some _ := E.cell 0
        have e1 : WE.cell? ⟨w.heap.size, 1, none⟩ = some _ := E.cell 1
        have e2 : WE.cell? ⟨w.heap.size, 2, none⟩ = some _ := E.cell 2
        have e3 : WE.cell? ⟨w.heap.size, 3, none⟩ = some _ := E.cell 3
        refine bodyPost_ret (v := .tuple #[.agg #[.int .i64 3, .string (s.extract 0 n), .int .i64 0, .int .i64 0], .bool true]) (by simp [results, Tryd.results20, go_sem, e0, e1, e2, e3]) rfl ?_
        exact ⟨by rw [firstE_sign hq1 hc0 (HI.out.1 (by omega)) (HI.out.2.1 (by omega)) HL.out n HN.out], EB⟩
    · have r0 : wr.cell? ⟨w.heap.size, 0, none⟩ = some (.int .i64 0) := hz.cell 0
      have r1 : wr.cell? ⟨w.heap.size, 1, none⟩ = some (.string ⟨#[]⟩) := hz.cell 1
      have r2 : wr.cell? ⟨w.heap.size, 2, none⟩ = some (.int .i64 0) := hz.cell 2
      have r3 : wr.cell? ⟨w.heap.size, 3, none⟩ = some (.int .i64 0) := hz.cell 3
      have q0 := hz.free 0
      have q1 := hz.free 1
      have q2 := hz.free 2
      have q3 := hz.free 3
      go_wp2_with fail
      have E := tok_put hz (.int .i64 0) (.string ⟨#[]⟩) (.int .i64 0) (.int .i64 0)
      have EB := tok_below hb w.heap.size (Nat.le_refl _) (.int .i64 0) (.string ⟨#[]⟩) (.int .i64 0) (.int .i64 0)
      obtain ⟨WE, hWE⟩ : ∃ WE, WE = (((wr.setCell ⟨w.heap.size, 0, none⟩ (.int .i64 0)).setCell ⟨w.heap.size, 1, none⟩ (.string ⟨#[]⟩)).setCell ⟨w.heap.size, 2, none⟩ (.int .i64 0)).setCell ⟨w.heap.size, 3, none⟩ (.int .i64 0) := ⟨_, rfl⟩
      rw [← hWE] at E EB ⊢
      clear hWE
      have e0 : WE.cell? ⟨w.heap.size, 0, none⟩ = some _ := E.cell 0
      have e1 : WE.cell? ⟨w.heap.size, 1, none⟩ = some _ := E.cell 1
      have e2 : WE.cell? ⟨w.heap.size, 2, none⟩ = some _ := E.cell 2
      have e3 : WE.cell? ⟨w.heap.size, 3, none⟩ = some _ := E.cell 3
      refine bodyPost_ret (v := .tuple #[.agg #[.int .i64 0, .string ⟨#[]⟩, .int .i64 0, .int .i64 0], .bool false]) (by simp [results, Tryd.results20, go_sem, e0, e1, e2, e3]) rfl ?_
      exact ⟨by rw [firstE_none (by omega) hc0 (HI.out.1 (by omega)) (HI.out.2.1 (by omega)) (HI.out.2.2 (by omega))], EB⟩
end Go.Proofs.YtplndghcileghaaDoor
