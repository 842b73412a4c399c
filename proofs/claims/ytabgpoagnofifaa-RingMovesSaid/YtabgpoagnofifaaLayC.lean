/-
  LAYOUT and RING: Size, Rings, the law's 'where'.
-/
import Derived.Test.YtabgpoagnofifaaRows
import Derived.ProofKit
import Derived.Test.YtabgpoagnofifaaLayB
namespace Go.Proofs.Ytabgpoagnofifaa
open Go.ChangeShapes Go.WideShapes Go.ChangeAt Go.RowKit

def sizeP (r : Int) : Int := if r < 0 then 0 else if r = 0 then 4 else if r = 1 then 8 else if r = 2 then 16 else if r = 3 then 32 else if r = 4 then 64 else if r = 5 then 128 else if r = 6 then 256 else if r = 7 then 512 else if r = 8 then 1024 else if r = 9 then 2048 else if r = 10 then 4096 else if r = 11 then 8192 else if r = 12 then 16384 else if r = 13 then 32768 else if r = 14 then 65536 else if r = 15 then 131072 else 0

theorem size_any (r : Int) (w : World) : Calls Try.prog 10 #[.int .i64 r] w fun e w' => e = .returned (.int .i64 (sizeP r)) ∧ w' = w := by
  by_cases h0 : r < 0
  · have HQ : Hid (sizeP r = 0) := Lib.hid (by unfold sizeP; rw [if_pos h0])
    go_enter Try.func10, Try.ntmps10
    go_wp2_with fail
    go_ret
    exact ⟨retI HQ.out.symm, rfl⟩
  · by_cases h1 : 15 < r
    · have HQ : Hid (sizeP r = 0) := Lib.hid (by unfold sizeP; repeat' split
                                                 all_goals omega)
      go_enter Try.func10, Try.ntmps10
      go_wp2_with fail
      go_ret
      exact ⟨retI HQ.out.symm, rfl⟩
    · rcases (show r = 0 ∨ r = 1 ∨ r = 2 ∨ r = 3 ∨ r = 4 ∨ r = 5 ∨ r = 6 ∨ r = 7 ∨ r = 8 ∨ r = 9 ∨ r = 10 ∨ r = 11 ∨ r = 12 ∨ r = 13 ∨ r = 14 ∨ r = 15 by omega) with rfl | rfl | rfl | rfl | rfl | rfl | rfl | rfl | rfl | rfl | rfl | rfl | rfl | rfl | rfl | rfl
      all_goals
        clear h0 h1
        go_enter Try.func10, Try.ntmps10
        go_wp2
        go_ret
        exact ⟨rfl, rfl⟩

/-- the layout of so many seats and tasks -/
def lay2 (s t : Int) : Array Value :=
  layC s 0 1 1 t 0 0 0 0 (4 + s) (4 + 2 * s) (4 + 5 * s) (4 + 8 * s) (4 + 8 * s + s * cellsP (ringsP t)) (4 + 8 * s + s * cellsP (ringsP t) + 4 * t) (4 + 8 * s + s * cellsP (ringsP t) + 4 * t) (4 + 8 * s + s * cellsP (ringsP t) + 4 * t) (4 + 8 * s + s * cellsP (ringsP t) + 4 * t) (4 + 8 * s + s * cellsP (ringsP t) + 4 * t) (4 + 8 * s + s * cellsP (ringsP t) + 4 * t)

theorem of_two (s t : Int) (hs : 1 ≤ s ∧ s ≤ 3) (ht : 1 ≤ t ∧ t ≤ 64) (w : World) :
    Calls Try.prog 22 #[.agg (confC s 0 1 1 t 0 0 0 0)] w fun e w' => e = .returned (.tuple #[.agg (lay2 s t), .int .i64 0]) ∧ Below w.heap.size w w' :=
  of_yes s 0 1 1 t 0 0 0 0 ⟨⟨hs.1, by omega⟩, ⟨by omega, by omega⟩, ⟨by omega, by omega⟩, ht, ⟨by omega, by omega⟩, ⟨by omega, by omega⟩, ⟨by omega, by omega⟩, ⟨by omega, by omega⟩, .inl rfl⟩ ⟨by omega, by omega⟩ _ 0 0 _ rfl rfl rfl rfl w _ _ _ _ _ _ _ _ _ _ _ rfl rfl rfl rfl rfl rfl (by omega) (by omega) (by omega) (by omega) (by omega)

theorem rings_lay (X : Array Value) (t : Int) (h4 : X[4]? = some (.int .i64 t)) (w : World) :
    Calls Try.prog 17 #[.agg X] w fun e w' => e = .returned (.int .i64 (ringsP t)) ∧ Below w.heap.size w w' := by
  have c4 : (w.alloc (Obj.cells X 26)).cell? ⟨w.heap.size, 4, none⟩ = some (.int .i64 t) := ((Blk.made w _ _).cell 4).trans h4
  have hb : Below w.heap.size w (w.alloc (Obj.cells X 26)) := (Below.refl _ w).alloc (Nat.le_refl _) _
  go_enter Try.func17, Try.ntmps17
  go_wp2_with fail
  refine (rings_any t _).mono ?_
  rintro e w' ⟨rfl, rfl⟩
  go_wp2_with fail
  go_ret
  exact ⟨rfl, hb⟩

set_option maxHeartbeats 2000000 in
theorem where_any (a b m k : Int) (hs : Int.tmod a 3 = m) (ht : Int.tmod b 64 = k) (h1 : 0 ≤ m ∧ m ≤ 2) (h2 : 0 ≤ k ∧ k ≤ 63) (w : World) :
    Calls Try.prog 9 #[.int .u8 a, .int .u8 b] w fun e w' => e = .returned (.agg (lay2 (1 + m) (1 + k))) ∧ Below w.heap.size w w' := by
  obtain ⟨X, hX⟩ : ∃ X, X = lay2 (1 + m) (1 + k) := ⟨_, rfl⟩
  have hOf := fun w => of_two (1 + m) (1 + k) (by omega) (by omega) w
  rw [← hX] at hOf ⊢
  have hx25 : Hid (X.size = 25) := Lib.hid (by rw [hX]; rfl)
  have hOn : Hid (X.all (·.oneCell') = true) := Lib.hid (by rw [hX]; simp [lay2, layC, Value.oneCell'])
  have hi1 : Hid ((Try.prog.info? 26).map (·.size) = some X.size) := Lib.hid (by rw [hx25.out]; exact lay25)
  have hi2 : Hid ((Try.prog.info? 26).map (·.size) = some X.toList.length) := Lib.hid (by rw [Array.length_toList, hx25.out]; exact lay25)
  have HOf := Lib.hid hOf
  clear hX hOf
  go_enter Try.func9, Try.ntmps9
  go_wp2_with fail
  have HZ0 : Blk (w.alloc (Obj.cells #[.int .i64 0, .int .i64 0, .int .i64 0, .int .i64 0, .int .i64 0, .int .i64 0, .int .i64 0, .int .i64 0, .int .i64 0, .int .i64 0, .int .i64 0, .int .i64 0, .int .i64 0, .int .i64 0, .int .i64 0, .int .i64 0, .int .i64 0, .int .i64 0, .int .i64 0, .int .i64 0, .int .i64 0, .int .i64 0, .int .i64 0, .int .i64 0, .int .i64 0] 26)) w.heap.size 26 #[.int .i64 0, .int .i64 0, .int .i64 0, .int .i64 0, .int .i64 0, .int .i64 0, .int .i64 0, .int .i64 0, .int .i64 0, .int .i64 0, .int .i64 0, .int .i64 0, .int .i64 0, .int .i64 0, .int .i64 0, .int .i64 0, .int .i64 0, .int .i64 0, .int .i64 0, .int .i64 0, .int .i64 0, .int .i64 0, .int .i64 0, .int .i64 0, .int .i64 0] := Blk.made w _ _
  have hb0 : Below w.heap.size w (w.alloc (Obj.cells #[.int .i64 0, .int .i64 0, .int .i64 0, .int .i64 0, .int .i64 0, .int .i64 0, .int .i64 0, .int .i64 0, .int .i64 0, .int .i64 0, .int .i64 0, .int .i64 0, .int .i64 0, .int .i64 0, .int .i64 0, .int .i64 0, .int .i64 0, .int .i64 0, .int .i64 0, .int .i64 0, .int .i64 0, .int .i64 0, .int .i64 0, .int .i64 0, .int .i64 0] 26)) := (Below.refl _ w).alloc (Nat.le_refl _) _
  refine (HOf.out _).mono ?_
  rintro e w2 ⟨rfl, hb2⟩
  have hb02 := hb0.trans (hb2.mono hb0.size)
  have HZ2 := HZ0.later hb2
  have hlt := HZ2.lt
  have hne : w.heap.size ≠ w2.heap.size := by omega
  have HN := Blk.made w2 26 #[.int .i64 0, .int .i64 0, .int .i64 0, .int .i64 0, .int .i64 0, .int .i64 0, .int .i64 0, .int .i64 0, .int .i64 0, .int .i64 0, .int .i64 0, .int .i64 0, .int .i64 0, .int .i64 0, .int .i64 0, .int .i64 0, .int .i64 0, .int .i64 0, .int .i64 0, .int .i64 0, .int .i64 0, .int .i64 0, .int .i64 0, .int .i64 0, .int .i64 0]
  have HA2 := HN.put_whole X.toList (by rw [Array.length_toList, hx25.out]; rfl)
  have HZ3 := Blk.farAll (w := w) hne X.toList 0 (HZ2.alloc (Obj.cells #[.int .i64 0, .int .i64 0, .int .i64 0, .int .i64 0, .int .i64 0, .int .i64 0, .int .i64 0, .int .i64 0, .int .i64 0, .int .i64 0, .int .i64 0, .int .i64 0, .int .i64 0, .int .i64 0, .int .i64 0, .int .i64 0, .int .i64 0, .int .i64 0, .int .i64 0, .int .i64 0, .int .i64 0, .int .i64 0, .int .i64 0, .int .i64 0, .int .i64 0] 26))
  have HZ4 := HZ3.put_whole X.toList (by rw [Array.length_toList, hx25.out]; rfl)
  have hb3 : Below w.heap.size w ((w2.alloc (Obj.cells #[.int .i64 0, .int .i64 0, .int .i64 0, .int .i64 0, .int .i64 0, .int .i64 0, .int .i64 0, .int .i64 0, .int .i64 0, .int .i64 0, .int .i64 0, .int .i64 0, .int .i64 0, .int .i64 0, .int .i64 0, .int .i64 0, .int .i64 0, .int .i64 0, .int .i64 0, .int .i64 0, .int .i64 0, .int .i64 0, .int .i64 0, .int .i64 0, .int .i64 0] 26)).setCells w2.heap.size 0 X.toList) := (hb02.alloc hb02.size _).trans (Lib.below_setCells_w hb02.size _ _ _)
  have hb4 := hb3.trans (Lib.below_setCells_w (Nat.le_refl w.heap.size) X.toList 0 _)
  have hth1 : Hid ((w2.alloc (Obj.cells #[.int .i64 0, .int .i64 0, .int .i64 0, .int .i64 0, .int .i64 0, .int .i64 0, .int .i64 0, .int .i64 0, .int .i64 0, .int .i64 0, .int .i64 0, .int .i64 0, .int .i64 0, .int .i64 0, .int .i64 0, .int .i64 0, .int .i64 0, .int .i64 0, .int .i64 0, .int .i64 0, .int .i64 0, .int .i64 0, .int .i64 0, .int .i64 0, .int .i64 0] 26)).there w2.heap.size 0 X.size) := Lib.hid fun j hj => by
    rw [Nat.zero_add]
    obtain ⟨u, hu⟩ := HN.has j (by rw [hx25.out] at hj; exact hj)
    exact ⟨by rw [hu]; rfl, HN.free j⟩
  have hra : Hid (World.rangeAt ((w2.alloc (Obj.cells #[.int .i64 0, .int .i64 0, .int .i64 0, .int .i64 0, .int .i64 0, .int .i64 0, .int .i64 0, .int .i64 0, .int .i64 0, .int .i64 0, .int .i64 0, .int .i64 0, .int .i64 0, .int .i64 0, .int .i64 0, .int .i64 0, .int .i64 0, .int .i64 0, .int .i64 0, .int .i64 0, .int .i64 0, .int .i64 0, .int .i64 0, .int .i64 0, .int .i64 0] 26)).setCells w2.heap.size 0 X.toList) w2.heap.size 0 X.toList) := Lib.hid fun j v hv => by
    rw [Nat.zero_add, HA2.cell]; simpa using hv
  have hth2 : Hid (World.there ((w2.alloc (Obj.cells #[.int .i64 0, .int .i64 0, .int .i64 0, .int .i64 0, .int .i64 0, .int .i64 0, .int .i64 0, .int .i64 0, .int .i64 0, .int .i64 0, .int .i64 0, .int .i64 0, .int .i64 0, .int .i64 0, .int .i64 0, .int .i64 0, .int .i64 0, .int .i64 0, .int .i64 0, .int .i64 0, .int .i64 0, .int .i64 0, .int .i64 0, .int .i64 0, .int .i64 0] 26)).setCells w2.heap.size 0 X.toList) w.heap.size 0 X.size) := Lib.hid fun j hj => by
    rw [Nat.zero_add]
    obtain ⟨u, hu⟩ := HZ3.has j (by rw [hx25.out] at hj; exact hj)
    exact ⟨by rw [hu]; rfl, HZ3.free j⟩
  have H4 := Lib.hid HZ4
  have B4 := Lib.hid hb4
  clear HZ0 hb0 HZ2 HN HA2 HZ3 HZ4 hb3 hb4 hne
  go_wp2_with (first
    | (with_reducible (show wpList _ _ _ ({ dst := _, op := Op.load 26 _, type := _, pos := _, after := _, guard := none } :: _) _ _); refine wpList_load_mid rfl 26 _ rfl w2.heap.size 0 rfl X.toList _ hra.out layFields rfl hi2.out ?_)
    | (with_reducible (show wpList _ _ _ ({ dst := none, op := Op.store 26 _ _, type := _, pos := _, after := _, guard := none } :: _) _ _); refine wpList_store_mid rfl 26 _ _ rfl w2.heap.size 0 X rfl rfl hth1.out hi1.out hOn.out ?_)
    | (with_reducible (show wpList _ _ _ ({ dst := none, op := Op.store 26 _ _, type := _, pos := _, after := _, guard := none } :: _) _ _); refine wpList_store_mid rfl 26 _ _ rfl w.heap.size 0 X rfl rfl hth2.out hi1.out hOn.out ?_))
  refine bodyPost_ret (v := .agg X) ?_ rfl ?_
  · exact results_cell_row Try.results9 _ _ w.heap.size 26 X (0, 0) _ rfl H4.out layFields rfl hi1.out
  · exact ⟨rfl, B4.out⟩
end Go.Proofs.Ytabgpoagnofifaa
