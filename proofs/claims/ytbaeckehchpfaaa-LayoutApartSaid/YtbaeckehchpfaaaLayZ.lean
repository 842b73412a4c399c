/-
  LAYOUT: the places of all kinds, in a row.
-/
import Derived.Test.YtbaeckehchpfaaaRows
import Derived.ProofKit
import Derived.Test.YtbaeckehchpfaaaLayQ
import Derived.Test.YtbaeckehchpfaaaLayJ
import Derived.Test.YtbaeckehchpfaaaTail
namespace Go.Proofs.Ytbaeckehchpfaaa
open Go.ChangeShapes Go.WideShapes Go.ChangeAt Go.RowKit

set_option maxRecDepth 100000 in
set_option maxHeartbeats 8000000 in
theorem places_row (X : Array Value) (hX : IntCells X 25) (a b v0 v1 v2 v3 v4 v5 v6 v7 v8 v9 v10 v11 v12 v13 : Int) (h0 : ∀ w, Calls Try.prog 29 #[.agg X, .int .i64 a] w fun e w' => e = .returned (.int .i64 v0) ∧ Below w.heap.size w w') (h1 : ∀ w, Calls Try.prog 30 #[.agg X, .int .i64 a] w fun e w' => e = .returned (.int .i64 v1) ∧ Below w.heap.size w w') (h2 : ∀ w, Calls Try.prog 31 #[.agg X, .int .i64 a, .int .i64 b] w fun e w' => e = .returned (.int .i64 v2) ∧ Below w.heap.size w w') (h3 : ∀ w, Calls Try.prog 32 #[.agg X, .int .i64 a, .int .i64 b] w fun e w' => e = .returned (.int .i64 v3) ∧ Below w.heap.size w w') (h4 : ∀ w, Calls Try.prog 18 #[.agg X, .int .i64 a, .int .i64 b] w fun e w' => e = .returned (.int .i64 v4) ∧ Below w.heap.size w w') (h5 : ∀ w, Calls Try.prog 20 #[.agg X, .int .i64 a, .int .i64 b] w fun e w' => e = .returned (.int .i64 v5) ∧ Below w.heap.size w w') (h6 : ∀ w, Calls Try.prog 33 #[.agg X, .int .i64 a] w fun e w' => e = .returned (.int .i64 v6) ∧ Below w.heap.size w w') (h7 : ∀ w, Calls Try.prog 34 #[.agg X, .int .i64 a, .int .i64 b] w fun e w' => e = .returned (.int .i64 v7) ∧ Below w.heap.size w w') (h8 : ∀ w, Calls Try.prog 35 #[.agg X, .int .i64 a, .int .i64 b] w fun e w' => e = .returned (.int .i64 v8) ∧ Below w.heap.size w w') (h9 : ∀ w, Calls Try.prog 36 #[.agg X, .int .i64 a] w fun e w' => e = .returned (.int .i64 v9) ∧ Below w.heap.size w w') (h10 : ∀ w, Calls Try.prog 37 #[.agg X, .int .i64 a, .int .i64 b] w fun e w' => e = .returned (.int .i64 v10) ∧ Below w.heap.size w w') (h11 : ∀ w, Calls Try.prog 38 #[.agg X, .int .i64 a] w fun e w' => e = .returned (.int .i64 v11) ∧ Below w.heap.size w w') (h12 : ∀ w, Calls Try.prog 39 #[.agg X, .int .i64 a] w fun e w' => e = .returned (.int .i64 v12) ∧ Below w.heap.size w w') (h13 : ∀ w, Calls Try.prog 21 #[.agg X, .int .i64 a, .int .i64 b] w fun e w' => e = .returned (.int .i64 v13) ∧ Below w.heap.size w w') (w : World) :
    Calls Try.prog 16 #[.agg X, .int .i64 a, .int .i64 b] w fun e w' => ∃ g, e = .returned (.slice (some ⟨g, 0, none⟩) 14 14) ∧ Blk w' g 3 #[.int .i64 v0, .int .i64 v1, .int .i64 v2, .int .i64 v3, .int .i64 v4, .int .i64 v5, .int .i64 v6, .int .i64 v7, .int .i64 v8, .int .i64 v9, .int .i64 v10, .int .i64 v11, .int .i64 v12, .int .i64 v13] ∧ Below w.heap.size w w' := by
  have hbk : Blk (w.alloc (Obj.cells X 26)) w.heap.size 26 X := Blk.made w _ _
  have hb : Below w.heap.size w (w.alloc (Obj.cells X 26)) := (Below.refl _ w).alloc (Nat.le_refl _) _
  have hi2 : Hid ((Try.prog.info? 26).map (·.size) = some X.toList.length) := Lib.hid (by rw [Array.length_toList, hX.1]; exact lay25)
  obtain ⟨V, hV⟩ : ∃ V, V = w.alloc (Obj.cells X 26) := ⟨_, rfl⟩
  rw [← hV] at hbk hb
  have hra : Hid (∀ w', (∃ x : After V, w' = x.w) → World.rangeAt w' w.heap.size 0 X.toList) := Lib.hid fun wx ⟨x, hx⟩ j v hv => by
    subst hx
    rw [Nat.zero_add, (hbk.later x.bel).cell]; simpa using hv
  have H0 := Lib.hid h0
  have H1 := Lib.hid h1
  have H2 := Lib.hid h2
  have H3 := Lib.hid h3
  have H4 := Lib.hid h4
  have H5 := Lib.hid h5
  have H6 := Lib.hid h6
  have H7 := Lib.hid h7
  have H8 := Lib.hid h8
  have H9 := Lib.hid h9
  have H10 := Lib.hid h10
  have H11 := Lib.hid h11
  have H12 := Lib.hid h12
  have H13 := Lib.hid h13
  have HV := Lib.hid hV
  have HB := Lib.hid hb
  clear hbk hb hV hX h0 h1 h2 h3 h4 h5 h6 h7 h8 h9 h10 h11 h12 h13
  go_enter Try.func16, Try.ntmps16
  go_wp2_with fail
  rw [← HV.out]
  refine wp_region_after_tail 50 (by kernel_rfl) (by kernel_rfl) ?_
  simp only [List.take_succ_cons, List.take_zero, List.drop_succ_cons, List.drop_zero]
  repeat (first
    | (with_reducible (show wpQuiet _ _ _ _ ({ dst := _, op := Op.load 26 _, type := _, pos := _, after := _, guard := _ } :: _) _); go_big_quiet_want; refine quiet_load_K 26 _ rfl w.heap.size 0 rfl X.toList _ hra.out layFields rfl hi2.out ?_; go_simp; go_big_quiet_on)
    | (go_big_quiet_step (first
      | (go_at_call 29; with_reducible exact calls_after (H0.out _))
      | (go_at_call 30; with_reducible exact calls_after (H1.out _))
      | (go_at_call 31; with_reducible exact calls_after (H2.out _))
      | (go_at_call 32; with_reducible exact calls_after (H3.out _))
      | (go_at_call 18; with_reducible exact calls_after (H4.out _))
      | (go_at_call 20; with_reducible exact calls_after (H5.out _))
      | (go_at_call 33; with_reducible exact calls_after (H6.out _))
      | (go_at_call 34; with_reducible exact calls_after (H7.out _))
      | (go_at_call 35; with_reducible exact calls_after (H8.out _))
      | (go_at_call 36; with_reducible exact calls_after (H9.out _))
      | (go_at_call 37; with_reducible exact calls_after (H10.out _))
      | (go_at_call 38; with_reducible exact calls_after (H11.out _))
      | (go_at_call 39; with_reducible exact calls_after (H12.out _))
      | (go_at_call 21; with_reducible exact calls_after (H13.out _)))))
  refine wpQuiet_nil ?_
  rintro _ ⟨y, rfl⟩
  go_wp2_with fail
  go_ret
  exact ⟨_, rfl, Blk.made _ _ _, HB.out.trans ((y.bel.alloc y.bel.size _).mono HB.out.size)⟩

end Go.Proofs.Ytbaeckehchpfaaa
