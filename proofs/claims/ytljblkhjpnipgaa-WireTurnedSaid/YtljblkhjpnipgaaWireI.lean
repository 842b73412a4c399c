/-
  WIRE: alive: the document's examples hold.
-/
import Derived.Test.YtljblkhjpnipgaaWireH
namespace Go.Proofs.Ytljblkhjpnipgaa
open Go.ChangeShapes Go.WideShapes Go.ChangeAt Go.RowKit Go.Lib

set_option maxRecDepth 40000 in
set_option maxHeartbeats 4000000 in
theorem alive_any (w : World) :
    Calls Try.prog 14 #[] w fun e w' => e = .returned (.bool true) ∧ Below w.heap.size w w' := by
  go_enter Try.func14, Try.ntmps14
  go_wp2_with fail
  refine (Put_any (-64) w (by unfold In64; omega)).mono ?_
  intro e w1 h
  obtain ⟨p1, c1, rfl, x1, -, -, b1⟩ := h.slice ex_p1 (n := 1) rfl
  go_wp2_with fail
  refine (Put_any 64 w1 (by unfold In64; omega)).mono ?_
  intro e w2 h
  obtain ⟨p2, c2, rfl, x2, -, -, b2⟩ := h.slice ex_p2 (n := 2) rfl
  replace x1 := x1.later b2
  replace b2 := below_trans b1 b2
  clear h b1
  go_wp2_with fail
  refine (Get_any _ [128, 1, 9] 3 _ (byts_new w2 [128, 1, 9] (by simp [In8])) (by simp)).mono ?_
  rintro e w3 ⟨rfl, b3⟩
  rw [ex_g1]
  replace b3 := below_of w2 b3 (bel_alloc (Below.refl _ _) _)
  replace x1 := x1.later b3
  replace x2 := x2.later b3
  replace b3 := below_trans b2 b3
  clear b2
  go_wp2_with fail
  refine (Get_any _ [128, 0] 2 _ (byts_new w3 [128, 0] (by simp [In8])) (by simp)).mono ?_
  rintro e w4 ⟨rfl, b4⟩
  rw [ex_g2]
  replace b4 := below_of w3 b4 (bel_alloc (Below.refl _ _) _)
  replace x1 := x1.later b4
  replace x2 := x2.later b4
  replace b4 := below_trans b3 b4
  clear b3
  go_wp2_with fail
  refine (GetText_any _ [4, 97, 98, 7] 4 _ (byts_new w4 [4, 97, 98, 7] (by simp [In8])) (by simp) (by simp) (by simp)).mono ?_
  rintro e w5 ⟨b5, ⟨hr, -⟩ | ⟨at5, n5, hr, -, rfl⟩⟩
  · rw [ex_r1] at hr; cases hr
  rw [ex_r1] at hr
  injection hr with hr
  injection hr with hr1 hr2
  subst hr1 hr2
  rw [ex_t3]
  replace b5 := below_of w4 b5 (bel_alloc (Below.refl _ _) _)
  replace x1 := x1.later b5
  replace x2 := x2.later b5
  replace b5 := below_trans b4 b5
  clear b4
  go_wp2_with fail
  refine (GetNums_any _ [4, 2, 1] 3 _ ⟨byts_new w5 [4, 2, 1] (by simp [In8]), by simp, by simp, by simp⟩).mono ?_
  rintro e w6 ⟨b6, ⟨hr, -⟩ | ⟨l6, at6, g6, hr, -, rfl, x6⟩⟩
  · rw [ex_n1] at hr; cases hr
  rw [ex_n1] at hr
  injection hr with hr
  injection hr with hr1 hr2
  subst hr1 hr2
  replace b6 := below_of w5 b6 (bel_alloc (Below.refl _ _) _)
  replace x1 := x1.later b6
  replace x2 := x2.later b6
  replace b6 := below_trans b5 b6
  clear b5
  go_wp2_with fail
  have b6a : Below w6.heap.size w6 (w6.alloc (Obj.cells #[Value.int .u8 127] 5)) := bel_alloc (Below.refl _ _) _
  refine (rSame_any _ _ [127] [127] _ _ _ (x1.later b6a) (byts_new w6 [127] (by simp [In8])) (by simp) (by simp)).mono ?_
  rintro e w7 ⟨rfl, b7⟩
  rw [show decide (([127] : List Int) = [127]) = true from by decide]
  replace b7 := below_of w6 b7 b6a
  clear b6a x1
  replace x2 := x2.later b7
  replace x6 := x6.later b7
  replace b7 := below_trans b6 b7
  clear b6
  go_wp2_with fail
  have b7a : Below w7.heap.size w7 (w7.alloc (Obj.cells #[Value.int .u8 128, Value.int .u8 1] 5)) := bel_alloc (Below.refl _ _) _
  refine (rSame_any _ _ [128, 1] [128, 1] _ _ _ (x2.later b7a) (byts_new w7 [128, 1] (by simp [In8])) (by simp) (by simp)).mono ?_
  rintro e w8 ⟨rfl, b8⟩
  rw [show decide (([128, 1] : List Int) = [128, 1]) = true from by decide]
  replace b8 := below_of w7 b8 b7a
  clear b7a x2
  replace x6 := x6.later b8
  replace b8 := below_trans b7 b8
  clear b7
  go_wp2_with fail
  have b8a : Below w8.heap.size w8 (w8.alloc (Obj.cells #[Value.int .i64 1, Value.int .i64 (-1)] 3)) := bel_alloc (Below.refl _ _) _
  refine (rInts_any _ _ [1, -1] [1, -1] _ _ _ (x6.later b8a) (ints_new w8 [1, -1] (by simp [In64])) (by simp) (by simp)).mono ?_
  rintro e w9 ⟨rfl, b9⟩
  rw [show decide (([1, -1] : List Int) = [1, -1]) = true from by decide]
  replace b9 := below_of w8 b9 b8a
  clear b8a x6
  replace b9 := below_trans b8 b9
  clear b8
  go_wp2_with fail
  refine (Text_any ⟨#[97, 98]⟩ w9 (by decide)).mono ?_
  intro e w10 h
  obtain ⟨p10, c10, rfl, x10, -, -, b10⟩ := h.slice ex_t2 (n := 3) rfl
  replace b10 := below_trans b9 b10
  clear h b9
  go_wp2_with fail
  have b10a : Below w10.heap.size w10 (w10.alloc (Obj.cells #[Value.int .u8 4, Value.int .u8 97, Value.int .u8 98] 5)) := bel_alloc (Below.refl _ _) _
  refine (rSame_any _ _ [4, 97, 98] [4, 97, 98] _ _ _ (x10.later b10a) (byts_new w10 [4, 97, 98] (by simp [In8])) (by simp) (by simp)).mono ?_
  rintro e w11 ⟨rfl, b11⟩
  rw [show decide (([4, 97, 98] : List Int) = [4, 97, 98]) = true from by decide]
  replace b11 := below_of w10 b11 b10a
  clear b10a x10
  replace b11 := below_trans b10 b11
  clear b10
  go_wp2_with fail
  refine (Nums_any _ [1, -1] 2 _ (ints_new w11 [1, -1] (by simp [In64])) (by simp)).mono ?_
  intro e w12 h
  obtain ⟨p12, c12, rfl, x12, -, -, b12⟩ := h.slice ex_n2 (n := 3) rfl
  replace b12 := below_of w11 b12 (bel_alloc (Below.refl _ _) _)
  replace b12 := below_trans b11 b12
  clear h b11
  go_wp2_with fail
  have b12a : Below w12.heap.size w12 (w12.alloc (Obj.cells #[Value.int .u8 4, Value.int .u8 2, Value.int .u8 1] 5)) := bel_alloc (Below.refl _ _) _
  refine (rSame_any _ _ [4, 2, 1] [4, 2, 1] _ _ _ (x12.later b12a) (byts_new w12 [4, 2, 1] (by simp [In8])) (by simp) (by simp)).mono ?_
  rintro e w13 ⟨rfl, b13⟩
  rw [show decide (([4, 2, 1] : List Int) = [4, 2, 1]) = true from by decide]
  replace b13 := below_of w12 b13 b12a
  clear b12a x12
  replace b13 := below_trans b12 b13
  clear b12
  go_wp2_with fail
  refine (Sum_any _ [1, 2] 2 _ (byts_new w13 [1, 2] (by simp [In8])) (by simp)).mono ?_
  rintro e w14 ⟨rfl, b14⟩
  rw [ex_s1]
  replace b14 := below_of w13 b14 (bel_alloc (Below.refl _ _) _)
  replace b14 := below_trans b13 b14
  clear b13
  go_wp2_with fail
  refine (Seal_any _ [1] 1 _ (byts_new w14 [1] (by simp [In8])) (by simp) (by simp)).mono ?_
  intro e w15 h
  obtain ⟨p15, c15, rfl, x15, -, -, b15⟩ := h.slice ex_se (n := 5) rfl
  replace b15 := below_of w14 b15 (bel_alloc (Below.refl _ _) _)
  replace b15 := below_trans b14 b15
  clear h b14
  go_wp2_with fail
  have b15a : Below w15.heap.size w15 (w15.alloc (Obj.cells #[Value.int .u8 2, Value.int .u8 1, Value.int .u8 132, Value.int .u8 128, Value.int .u8 16] 5)) := bel_alloc (Below.refl _ _) _
  refine (rSame_any _ _ [2, 1, 132, 128, 16] [2, 1, 132, 128, 16] _ _ _ (x15.later b15a) (byts_new w15 [2, 1, 132, 128, 16] (by simp [In8])) (by simp) (by simp)).mono ?_
  rintro e w16 ⟨rfl, b16⟩
  rw [show decide (([2, 1, 132, 128, 16] : List Int) = [2, 1, 132, 128, 16]) = true from by decide]
  replace b16 := below_of w15 b16 b15a
  replace b16 := below_trans b15 b16
  go_wp2_with fail
  go_ret
  exact ⟨rfl, b16⟩

end Go.Proofs.Ytljblkhjpnipgaa
