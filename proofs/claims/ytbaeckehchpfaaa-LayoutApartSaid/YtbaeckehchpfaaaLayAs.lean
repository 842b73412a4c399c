/-
  LAYOUT: the row of places, by kinds.
-/
import Derived.Test.YtbaeckehchpfaaaRows
import Derived.ProofKit
import Derived.Test.YtbaeckehchpfaaaLayRows
import Derived.Test.YtbaeckehchpfaaaLayAr
namespace Go.Proofs.Ytbaeckehchpfaaa
open Go.ChangeShapes Go.WideShapes Go.ChangeAt Go.RowKit

set_option maxHeartbeats 2000000 in
theorem places_same (X : Array Value) (hX : IntCells X 25) (s n bu sl t ce ma st ch f13 f14 f15 f16 f17 f18 f19 f20 f21 f22 f23 a b : Int) (x0 : X[0]? = some (.int .i64 s)) (x1 : X[1]? = some (.int .i64 n)) (x2 : X[2]? = some (.int .i64 bu)) (x3 : X[3]? = some (.int .i64 sl)) (x4 : X[4]? = some (.int .i64 t)) (x5 : X[5]? = some (.int .i64 ce)) (x6 : X[6]? = some (.int .i64 ma)) (x7 : X[7]? = some (.int .i64 st)) (x8 : X[8]? = some (.int .i64 ch)) (x13 : X[13]? = some (.int .i64 f13)) (x14 : X[14]? = some (.int .i64 f14)) (x15 : X[15]? = some (.int .i64 f15)) (x16 : X[16]? = some (.int .i64 f16)) (x17 : X[17]? = some (.int .i64 f17)) (x18 : X[18]? = some (.int .i64 f18)) (x19 : X[19]? = some (.int .i64 f19)) (x20 : X[20]? = some (.int .i64 f20)) (x21 : X[21]? = some (.int .i64 f21)) (x22 : X[22]? = some (.int .i64 f22)) (x23 : X[23]? = some (.int .i64 f23)) (b0 : 1 ≤ s ∧ s ≤ 8) (b1 : 0 ≤ n ∧ n ≤ 1000) (b2 : 1 ≤ bu ∧ bu ≤ 64) (b3 : 1 ≤ sl ∧ sl ≤ 8) (b4 : 1 ≤ t ∧ t ≤ 64) (b5 : 0 ≤ ce ∧ ce ≤ 16) (b6 : 0 ≤ ma ∧ ma ≤ 8) (b7 : 0 ≤ st ∧ st ≤ 8) (b8 : 0 ≤ ch ∧ ch ≤ 8) (b13 : 0 ≤ f13 ∧ f13 ≤ 50000) (b14 : 0 ≤ f14 ∧ f14 ≤ 50000) (b15 : 0 ≤ f15 ∧ f15 ≤ 50000) (b16 : 0 ≤ f16 ∧ f16 ≤ 50000) (b17 : 0 ≤ f17 ∧ f17 ≤ 50000) (b18 : 0 ≤ f18 ∧ f18 ≤ 50000) (b19 : 0 ≤ f19 ∧ f19 ≤ 50000) (b20 : 0 ≤ f20 ∧ f20 ≤ 50000) (b21 : 0 ≤ f21 ∧ f21 ≤ 50000) (b22 : 0 ≤ f22 ∧ f22 ≤ 50000) (b23 : 0 ≤ f23 ∧ f23 ≤ 50000) (w : World) :
    Calls Try.prog 16 #[.agg X, .int .i64 a, .int .i64 b] w fun e w' => ∃ g, e = .returned (.slice (some ⟨g, 0, none⟩) 14 14) ∧ Blk w' g 3 #[.int .i64 (atL f13 a 0 s 1 0 1), .int .i64 (atL f14 a 0 s 1 0 1), .int .i64 (atL f15 a 0 s 3 b 3), .int .i64 (atL f16 a 0 s 3 b 3), .int .i64 (ringV s t f17 a b), .int .i64 (atL f18 a 1 t 4 b 4), .int .i64 (atL f19 a 0 ce 1 0 1), .int .i64 (atL f20 a 0 ma (2 + bu) b 2), .int .i64 (atL (f20 + 2) a 0 ma (2 + bu) b bu), .int .i64 (atL f21 a 0 st (1 + sl) 0 1), .int .i64 (atL (f21 + 1) a 0 st (1 + sl) b sl), .int .i64 (atL f22 a 0 ch 2 0 1), .int .i64 (atL (f22 + 1) a 0 ch 2 0 1), .int .i64 (atL f23 a 1 n 8 b 8)] ∧ Below w.heap.size w w' :=
  places_row X hX a b _ _ _ _ _ _ _ _ _ _ _ _ _ _
      (fun w => pAlive X f13 s a x13 (by omega) x0 (by omega) w)
      (fun w => pOwner X f14 s a x14 (by omega) x0 (by omega) w)
      (fun w => pResv X f15 s a b x15 (by omega) x0 (by omega) w)
      (fun w => pDeque X f16 s a b x16 (by omega) x0 (by omega) w)
      (fun w => ring_lay X s t f17 a b hX.1 x0 x4 x17 (by omega) (by omega) w)
      (fun w => pTask X f18 t a b x18 (by omega) x4 (by omega) w)
      (fun w => pCell X f19 ce a x19 (by omega) x5 (by omega) w)
      (fun w => pMap X f20 ma a b bu x20 (by omega) x6 (by omega) x2 (by omega) w)
      (fun w => pBucket X f20 ma a b bu x20 (by omega) x6 (by omega) x2 (by omega) w)
      (fun w => pTop X f21 st a sl x21 (by omega) x7 (by omega) x3 (by omega) w)
      (fun w => pSlot X f21 st a b sl x21 (by omega) x7 (by omega) x3 (by omega) w)
      (fun w => pHead X f22 ch a x22 (by omega) x8 (by omega) w)
      (fun w => pTail X f22 ch a x22 (by omega) x8 (by omega) w)
      (fun w => pNode X f23 n a b x23 (by omega) x1 (by omega) w) w

set_option maxHeartbeats 2000000 in
theorem places_val (s n bu sl t ce ma st ch a b : Int) (h : ConfOk s n bu sl t ce ma st ch) (w : World) :
    Calls Try.prog 16 #[.agg (layV s n bu sl t ce ma st ch), .int .i64 a, .int .i64 b] w fun e w' => ∃ g, e = .returned (.slice (some ⟨g, 0, none⟩) 14 14) ∧ Blk w' g 3 #[.int .i64 ((LP.mk s n bu sl t ce ma st ch).val a b 0), .int .i64 ((LP.mk s n bu sl t ce ma st ch).val a b 1), .int .i64 ((LP.mk s n bu sl t ce ma st ch).val a b 2), .int .i64 ((LP.mk s n bu sl t ce ma st ch).val a b 3), .int .i64 ((LP.mk s n bu sl t ce ma st ch).val a b 4), .int .i64 ((LP.mk s n bu sl t ce ma st ch).val a b 5), .int .i64 ((LP.mk s n bu sl t ce ma st ch).val a b 6), .int .i64 ((LP.mk s n bu sl t ce ma st ch).val a b 7), .int .i64 ((LP.mk s n bu sl t ce ma st ch).val a b 8), .int .i64 ((LP.mk s n bu sl t ce ma st ch).val a b 9), .int .i64 ((LP.mk s n bu sl t ce ma st ch).val a b 10), .int .i64 ((LP.mk s n bu sl t ce ma st ch).val a b 11), .int .i64 ((LP.mk s n bu sl t ce ma st ch).val a b 12), .int .i64 ((LP.mk s n bu sl t ce ma st ch).val a b 13)] ∧ Below w.heap.size w w' := by
  obtain ⟨⟨hs, hb, hsl, ht, hce, hma, hst, hch, -⟩, hn⟩ := h
  have hr := rings_le t
  have hc := cells_le (ringsP t) (by omega)
  have p1 : 0 ≤ ma * (2 + bu) ∧ ma * (2 + bu) ≤ 528 := ⟨Int.mul_nonneg (by omega) (by omega), by have := Int.mul_le_mul (show ma ≤ 8 by omega) (show 2 + bu ≤ 66 by omega) (by omega) (by omega); omega⟩
  have p2 : 0 ≤ st * (1 + sl) ∧ st * (1 + sl) ≤ 72 := ⟨Int.mul_nonneg (by omega) (by omega), by have := Int.mul_le_mul (show st ≤ 8 by omega) (show 1 + sl ≤ 9 by omega) (by omega) (by omega); omega⟩
  have p3 : 0 ≤ s * cellsP (ringsP t) ∧ s * cellsP (ringsP t) ≤ 992 := ⟨Int.mul_nonneg (by omega) (by omega), by have := Int.mul_le_mul (show s ≤ 8 by omega) hc.2 hc.1 (by omega); omega⟩
  exact places_same _ (layC_cells ..) s n bu sl t ce ma st ch _ _ _ _ _ _ _ _ _ _ _ a b rfl rfl rfl rfl rfl rfl rfl rfl rfl rfl rfl rfl rfl rfl rfl rfl rfl rfl rfl rfl (by omega) (by omega) (by omega) (by omega) (by omega) (by omega) (by omega) (by omega) (by omega) (by omega) (by omega) (by omega) (by omega) (by omega) (by omega) (by omega) (by omega) (by omega) (by omega) (by omega) w

def St (w wr : World) (lb gm : Nat) (X : Array Value) (q : LP) (Z : Nat) (cur : Int) : Prop :=
  ∃ A, Had q A Z cur ∧ Blk wr gm 3 A ∧ Blk wr lb 26 X ∧ Below w.heap.size w wr

theorem St.later {w wr w' : World} {lb gm : Nat} {X : Array Value} {q : LP} {Z : Nat} {cur : Int} (h : St w wr lb gm X q Z cur) (hb : Below wr.heap.size wr w') : St w w' lb gm X q Z cur := by
  obtain ⟨A, h1, h2, h3, h4⟩ := h
  exact ⟨A, h1, h2.later hb, h3.later hb, h4.trans (hb.mono h4.size)⟩

theorem St.pass {w wr : World} {lb gm : Nat} {X : Array Value} {q : LP} {Z k : Nat} {a b m : Int} (hS : St w wr lb gm X q Z (((a * 16 + b) * 14 + k) * 64 + m)) (h : q.Ok) (hZ : (Z : Int) = q.f24) (hk : k < 14) (hb : 0 ≤ b ∧ b < 16) (hm : 0 ≤ m ∧ m ≤ 64)
    (hno : ∀ i, m ≤ i → ¬ q.Vis k a b i) : St w wr lb gm X q Z (((a * 16 + b) * 14 + (k + 1 : Nat)) * 64) := by
  obtain ⟨A, h1, h2⟩ := hS
  exact ⟨A, h1.pass h hZ hk hb hm hno, h2⟩

theorem St.cast {w wr : World} {lb gm : Nat} {X : Array Value} {q : LP} {Z : Nat} {c1 c2 : Int} (h : St w wr lb gm X q Z c1) (e : c1 = c2) : St w wr lb gm X q Z c2 := e ▸ h
end Go.Proofs.Ytbaeckehchpfaaa
