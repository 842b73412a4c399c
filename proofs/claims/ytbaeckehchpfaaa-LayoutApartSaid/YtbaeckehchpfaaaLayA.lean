/-
  LAYOUT: rings, ringCells, mayBe.
-/
import Derived.Test.YtbaeckehchpfaaaRows
import Derived.ProofKit
import Derived.Test.YtbaeckehchpfaaaBlk
import Derived.Test.YtbaeckehchpfaaaGet
import Derived.LoopTactic
import Derived.Deep.QuietTactic
import Derived.BigQuiet
import Derived.Deep.RegionHeld3
namespace Go.Proofs.Ytbaeckehchpfaaa
open Go.ChangeShapes Go.WideShapes Go.ChangeAt Go.RowKit

theorem retI {a b : Int} (h : a = b) : Ending.returned (.int .i64 a) = .returned (.int .i64 b) := by rw [h]

def ringsP (t : Int) : Int := if t ≤ 4 then 1 else if t ≤ 8 then 2 else if t ≤ 16 then 3 else if t ≤ 32 then 4 else 5
def cellsP (n : Int) : Int := if n = 0 then 0 else if n = 1 then 4 else if n = 2 then 12 else if n = 3 then 28 else if n = 4 then 60 else 124

theorem rings_any (t : Int) (w : World) : Calls Try.prog 25 #[.int .i64 t] w fun e w' => e = .returned (.int .i64 (ringsP t)) ∧ w' = w := by
  obtain ⟨q, hq⟩ : ∃ q, ringsP t = q := ⟨_, rfl⟩
  rw [hq]
  have HQ := Lib.hid hq
  clear hq
  go_enter Try.func25, Try.ntmps25
  go_wp2_with fail
  go_loop [3, 4] (fun n s => (n = .int .i64 1 ∧ s = .int .i64 4) ∨ (n = .int .i64 2 ∧ s = .int .i64 8 ∧ 4 < t) ∨ (n = .int .i64 3 ∧ s = .int .i64 16 ∧ 8 < t) ∨ (n = .int .i64 4 ∧ s = .int .i64 32 ∧ 16 < t) ∨ (n = .int .i64 5 ∧ s = .int .i64 64 ∧ 32 < t)) (fun n _ => 5 - (intOf n).toNat)
  case atStart => exact .inl ⟨rfl, rfl⟩
  case round =>
    rcases hrel with ⟨rfl, rfl⟩ | ⟨rfl, rfl, h⟩ | ⟨rfl, rfl, h⟩ | ⟨rfl, rfl, h⟩ | ⟨rfl, rfl, h⟩
    · by_cases h2 : 4 < t
      · go_wp2_with fail
        go_round
        case rel => exact .inr (.inl ⟨rfl, rfl, h2⟩)
        case measure => simp [intOf]
      · go_wp2_with fail
        go_ret
        exact ⟨retI (by rw [← HQ.out]; unfold ringsP; rw [if_pos (by omega)]), rfl⟩
    · by_cases h2 : 8 < t
      · go_wp2_with fail
        go_round
        case rel => exact .inr (.inr (.inl ⟨rfl, rfl, h2⟩))
        case measure => simp [intOf]
      · go_wp2_with fail
        go_ret
        exact ⟨retI (by rw [← HQ.out]; unfold ringsP; rw [if_neg (by omega), if_pos (by omega)]), rfl⟩
    · by_cases h2 : 16 < t
      · go_wp2_with fail
        go_round
        case rel => exact .inr (.inr (.inr (.inl ⟨rfl, rfl, h2⟩)))
        case measure => simp [intOf]
      · go_wp2_with fail
        go_ret
        exact ⟨retI (by rw [← HQ.out]; unfold ringsP; rw [if_neg (by omega), if_neg (by omega), if_pos (by omega)]), rfl⟩
    · by_cases h2 : 32 < t
      · go_wp2_with fail
        go_round
        case rel => exact .inr (.inr (.inr (.inr ⟨rfl, rfl, h2⟩)))
        case measure => simp [intOf]
      · go_wp2_with fail
        go_ret
        exact ⟨retI (by rw [← HQ.out]; unfold ringsP; rw [if_neg (by omega), if_neg (by omega), if_neg (by omega), if_pos (by omega)]), rfl⟩
    · have hd : ringsP t = 5 := by unfold ringsP; rw [if_neg (by omega), if_neg (by omega), if_neg (by omega), if_neg (by omega)]
      have HD := Lib.hid hd
      clear hd
      by_cases h6 : 64 < t
      all_goals
        go_wp2_with fail
        go_ret
        exact ⟨retI (by rw [← HQ.out, HD.out]), rfl⟩

theorem cells_any (n : Int) (h0 : 0 ≤ n) (h5 : n ≤ 5) (w : World) : Calls Try.prog 24 #[.int .i64 n] w fun e w' => e = .returned (.int .i64 (cellsP n)) ∧ w' = w := by
  rcases (show n = 0 ∨ n = 1 ∨ n = 2 ∨ n = 3 ∨ n = 4 ∨ n = 5 by omega) with rfl | rfl | rfl | rfl | rfl | rfl
  all_goals
    go_enter Try.func24, Try.ntmps24
    go_wp2
    go_ret
    exact ⟨rfl, rfl⟩

/-- a conf, as a value's parts -/
def confC (s n b sl t ce ma st ch : Int) : Array Value := #[.int .i64 s, .int .i64 n, .int .i64 b, .int .i64 sl, .int .i64 t, .int .i64 ce, .int .i64 ma, .int .i64 st, .int .i64 ch]
/-- its rows of bounds -/
def boundC (s b sl t ce ma st ch : Int) : Array Value := #[.int .i64 s, .int .i64 1, .int .i64 8, .int .i64 b, .int .i64 1, .int .i64 64, .int .i64 sl, .int .i64 1, .int .i64 8, .int .i64 t, .int .i64 1, .int .i64 64, .int .i64 ce, .int .i64 0, .int .i64 16,
  .int .i64 ma, .int .i64 0, .int .i64 8, .int .i64 st, .int .i64 0, .int .i64 8, .int .i64 ch, .int .i64 0, .int .i64 8]

structure MayOk (s b sl t ce ma st ch : Int) : Prop where
  hs : 1 ≤ s ∧ s ≤ 8
  hb : 1 ≤ b ∧ b ≤ 64
  hsl : 1 ≤ sl ∧ sl ≤ 8
  ht : 1 ≤ t ∧ t ≤ 64
  hce : 0 ≤ ce ∧ ce ≤ 16
  hma : 0 ≤ ma ∧ ma ≤ 8
  hst : 0 ≤ st ∧ st ≤ 8
  hch : 0 ≤ ch ∧ ch ≤ 8
  pow : b = 1 ∨ b = 2 ∨ b = 4 ∨ b = 8 ∨ b = 16 ∨ b = 32 ∨ b = 64

set_option maxRecDepth 100000 in
set_option maxHeartbeats 2000000 in
theorem may_yes (s n b sl t ce ma st ch : Int) (h : MayOk s b sl t ce ma st ch) (w : World) :
    Calls Try.prog 22 #[.agg (confC s n b sl t ce ma st ch)] w fun e w' => e = .returned (.bool true) ∧ Below w.heap.size w w' := by
  obtain ⟨h1, h2, h3, h4, h5, h6, h7, h8, hpow⟩ := h
  obtain ⟨W, hW⟩ : ∃ W, W = (w.alloc (Obj.cells (confC s n b sl t ce ma st ch) 23)).alloc (Obj.cells (boundC s b sl t ce ma st ch) 66) := ⟨_, rfl⟩
  have HC : Blk W w.heap.size 23 (confC s n b sl t ce ma st ch) := by rw [hW]; exact (Blk.made w _ _).alloc _
  have HR : Blk W (w.heap.size + 1) 66 (boundC s b sl t ce ma st ch) := by
    rw [hW]
    have := Blk.made (w.alloc (Obj.cells (confC s n b sl t ce ma st ch) 23)) 66 (boundC s b sl t ce ma st ch)
    simpa [go_sem] using this
  have hbW : Below w.heap.size w W := by rw [hW]; exact ((Below.refl _ w).alloc (Nat.le_refl _) _).alloc (by simp [go_sem]) _
  have HCh := Lib.hid HC
  have HRh := Lib.hid HR
  have hw := hW
  unfold confC boundC at hw
  have HW := Lib.hid hw
  clear hW hw HC HR
  unfold confC
  go_enter Try.func22, Try.ntmps22
  go_wp2_with fail
  rw [← HW.out]
  go_loopw [31] (fun i wr => ∃ k : Nat, i = .int .i64 k ∧ k ≤ 8 ∧ Below W.heap.size W wr) (fun i _ => 8 - (intOf i).toNat)
  case atStart => exact ⟨0, rfl, by omega, Below.refl _ _⟩
  case round =>
    obtain ⟨k, rfl, hk, hb⟩ := hrel
    rename_i wr
    have HX := Lib.hid (HRh.out.later hb)
    have hx2 : wr.cell? ⟨w.heap.size, 2, none⟩ = some (.int .i64 b) := (HCh.out.later hb).cell 2
    rcases (show k = 0 ∨ k = 1 ∨ k = 2 ∨ k = 3 ∨ k = 4 ∨ k = 5 ∨ k = 6 ∨ k = 7 ∨ k = 8 by omega) with rfl | rfl | rfl | rfl | rfl | rfl | rfl | rfl | rfl
    · have x0 : wr.cell? ⟨w.heap.size + 1, 0, none⟩ = some (.int .i64 s) := HX.out.cell 0
      have x1 : wr.cell? ⟨w.heap.size + 1, 1, none⟩ = some (.int .i64 1) := HX.out.cell 1
      have x2 : wr.cell? ⟨w.heap.size + 1, 2, none⟩ = some (.int .i64 8) := HX.out.cell 2
      go_wp2_with fail
      go_roundw
      case rel => exact ⟨1, rfl, by omega, hb.alloc hb.size _⟩
      case measure => simp [intOf]
    · have x0 : wr.cell? ⟨w.heap.size + 1, 3, none⟩ = some (.int .i64 b) := HX.out.cell 3
      have x1 : wr.cell? ⟨w.heap.size + 1, 4, none⟩ = some (.int .i64 1) := HX.out.cell 4
      have x2 : wr.cell? ⟨w.heap.size + 1, 5, none⟩ = some (.int .i64 64) := HX.out.cell 5
      go_wp2_with fail
      go_roundw
      case rel => exact ⟨2, rfl, by omega, hb.alloc hb.size _⟩
      case measure => simp [intOf]
    · have x0 : wr.cell? ⟨w.heap.size + 1, 6, none⟩ = some (.int .i64 sl) := HX.out.cell 6
      have x1 : wr.cell? ⟨w.heap.size + 1, 7, none⟩ = some (.int .i64 1) := HX.out.cell 7
      have x2 : wr.cell? ⟨w.heap.size + 1, 8, none⟩ = some (.int .i64 8) := HX.out.cell 8
      go_wp2_with fail
      go_roundw
      case rel => exact ⟨3, rfl, by omega, hb.alloc hb.size _⟩
      case measure => simp [intOf]
    · have x0 : wr.cell? ⟨w.heap.size + 1, 9, none⟩ = some (.int .i64 t) := HX.out.cell 9
      have x1 : wr.cell? ⟨w.heap.size + 1, 10, none⟩ = some (.int .i64 1) := HX.out.cell 10
      have x2 : wr.cell? ⟨w.heap.size + 1, 11, none⟩ = some (.int .i64 64) := HX.out.cell 11
      go_wp2_with fail
      go_roundw
      case rel => exact ⟨4, rfl, by omega, hb.alloc hb.size _⟩
      case measure => simp [intOf]
    · have x0 : wr.cell? ⟨w.heap.size + 1, 12, none⟩ = some (.int .i64 ce) := HX.out.cell 12
      have x1 : wr.cell? ⟨w.heap.size + 1, 13, none⟩ = some (.int .i64 0) := HX.out.cell 13
      have x2 : wr.cell? ⟨w.heap.size + 1, 14, none⟩ = some (.int .i64 16) := HX.out.cell 14
      go_wp2_with fail
      go_roundw
      case rel => exact ⟨5, rfl, by omega, hb.alloc hb.size _⟩
      case measure => simp [intOf]
    · have x0 : wr.cell? ⟨w.heap.size + 1, 15, none⟩ = some (.int .i64 ma) := HX.out.cell 15
      have x1 : wr.cell? ⟨w.heap.size + 1, 16, none⟩ = some (.int .i64 0) := HX.out.cell 16
      have x2 : wr.cell? ⟨w.heap.size + 1, 17, none⟩ = some (.int .i64 8) := HX.out.cell 17
      go_wp2_with fail
      go_roundw
      case rel => exact ⟨6, rfl, by omega, hb.alloc hb.size _⟩
      case measure => simp [intOf]
    · have x0 : wr.cell? ⟨w.heap.size + 1, 18, none⟩ = some (.int .i64 st) := HX.out.cell 18
      have x1 : wr.cell? ⟨w.heap.size + 1, 19, none⟩ = some (.int .i64 0) := HX.out.cell 19
      have x2 : wr.cell? ⟨w.heap.size + 1, 20, none⟩ = some (.int .i64 8) := HX.out.cell 20
      go_wp2_with fail
      go_roundw
      case rel => exact ⟨7, rfl, by omega, hb.alloc hb.size _⟩
      case measure => simp [intOf]
    · have x0 : wr.cell? ⟨w.heap.size + 1, 21, none⟩ = some (.int .i64 ch) := HX.out.cell 21
      have x1 : wr.cell? ⟨w.heap.size + 1, 22, none⟩ = some (.int .i64 0) := HX.out.cell 22
      have x2 : wr.cell? ⟨w.heap.size + 1, 23, none⟩ = some (.int .i64 8) := HX.out.cell 23
      go_wp2_with fail
      go_roundw
      case rel => exact ⟨8, rfl, by omega, hb.alloc hb.size _⟩
      case measure => simp [intOf]
    · rcases hpow with rfl | rfl | rfl | rfl | rfl | rfl | rfl
      all_goals
        go_wp2_with fail
        go_ret
        exact ⟨rfl, hbW.trans (hb.mono hbW.size)⟩
end Go.Proofs.Ytbaeckehchpfaaa
