/-
  LAYOUT: Ring; rings, one behind the other.
-/
import Derived.Test.YtbaeckehchpfaaaRows
import Derived.ProofKit
import Derived.Test.YtbaeckehchpfaaaLayU
namespace Go.Proofs.Ytbaeckehchpfaaa
open Go.ChangeShapes Go.WideShapes Go.ChangeAt Go.RowKit

/-- the first cell of a seat's ring -/
def ringV (s t g seat r : Int) : Int := if r < 0 ∨ ringsP t ≤ r then -1 else atL g seat 0 s (cellsP (ringsP t)) (cellsP r) (cellsP (ringsP t))

set_option maxHeartbeats 2000000 in
theorem ring_lay (X : Array Value) (s t g seat r : Int) (hsz : X.size = 25) (h0 : X[0]? = some (.int .i64 s)) (h4 : X[4]? = some (.int .i64 t)) (h17 : X[17]? = some (.int .i64 g)) (hs : 1 ≤ s ∧ s ≤ 8) (hg : 0 ≤ g ∧ g ≤ 100000) (w : World) :
    Calls Try.prog 18 #[.agg X, .int .i64 seat, .int .i64 r] w fun e w' => e = .returned (.int .i64 (ringV s t g seat r)) ∧ Below w.heap.size w w' := by
  have hbk : Blk (w.alloc (Obj.cells X 26)) w.heap.size 26 X := Blk.made w _ _
  have hb : Below w.heap.size w (w.alloc (Obj.cells X 26)) := (Below.refl _ w).alloc (Nat.le_refl _) _
  have hra : Hid (World.rangeAt (w.alloc (Obj.cells X 26)) w.heap.size 0 X.toList) := Lib.hid fun j v hv => by
    rw [Nat.zero_add, hbk.cell]; simpa using hv
  have hi2 : Hid ((Try.prog.info? 26).map (·.size) = some X.toList.length) := Lib.hid (by rw [Array.length_toList, hsz]; exact lay25)
  obtain ⟨q, hq⟩ : ∃ q, ringsP t = q := ⟨_, rfl⟩
  have hq5 : 1 ≤ q ∧ q ≤ 5 := hq ▸ rings_le t
  have HRL : Hid (∀ w, Calls Try.prog 13 #[.agg X] w fun e w' => e = .returned (.int .i64 q) ∧ Below w.heap.size w w') := Lib.hid (hq ▸ rings_lay X t h4)
  have HK := Lib.hid hbk
  have HB := Lib.hid hb
  have H0 := Lib.hid h0
  have H17 := Lib.hid h17
  clear hbk hb hsz h0 h4 h17
  have HQ : Hid (ringV s t g seat r = if r < 0 ∨ q ≤ r then -1 else atL g seat 0 s (cellsP q) (cellsP r) (cellsP q)) := Lib.hid (by unfold ringV; rw [hq])
  clear hq
  have HC : Hid (0 ≤ cellsP q ∧ cellsP q ≤ 124) := Lib.hid (cells_le q (by omega))
  go_enter Try.func18, Try.ntmps18
  go_wp2_with (with_reducible (show wpList _ _ _ ({ dst := _, op := Op.load 26 _, type := _, pos := _, after := _, guard := none } :: _) _ _); refine wpList_load_mid rfl 26 _ rfl w.heap.size 0 rfl X.toList _ hra.out layFields rfl hi2.out ?_)
  refine (HRL.out _).mono ?_
  rintro e w2 ⟨rfl, hb2⟩
  have hb02 := HB.out.trans (hb2.mono HB.out.size)
  by_cases h1 : r < 0
  · go_wp2_with fail
    go_ret
    exact ⟨retI (by rw [HQ.out, if_pos (by omega)]), hb02⟩
  by_cases h2 : q ≤ r
  · go_wp2_with fail
    go_ret
    exact ⟨retI (by rw [HQ.out, if_pos (by omega)]), hb02⟩
  have HK2 := HK.out.later hb2
  have hlt := HK2.lt
  have HR : Hid (0 ≤ cellsP r ∧ cellsP r ≤ 124) := Lib.hid (cells_le r (by omega))
  go_wp2_with fail
  refine (cells_any q (by omega) (by omega) _).mono ?_
  rintro e w' ⟨rfl, rfl⟩
  go_wp2_with fail
  have x0 : ∀ y : After w', y.w.cell? ⟨w.heap.size, 0, none⟩ = some (.int .i64 s) := fun y => (y.cell hlt).trans ((HK2.cell 0).trans H0.out)
  have x17 : ∀ y : After w', y.w.cell? ⟨w.heap.size, 17, none⟩ = some (.int .i64 g) := fun y => (y.cell hlt).trans ((HK2.cell 17).trans H17.out)
  refine wp_region_after (by kernel_rfl) (by kernel_rfl) ?_
  repeat (go_big_quiet_step (first
    | (go_at_call 55; exact calls_after (from0_any _ _ _))
    | (go_at_call 24; exact calls_after ((cells_any r (by omega) (by omega) _).mono fun e w' ⟨h1, h2⟩ => ⟨h1, h2 ▸ Below.refl _ _⟩))
    | (go_at_call 54; exact calls_after (at_any g seat 0 s (cellsP q) (cellsP r) (cellsP q) hg (.inl rfl) (by omega) (by have := HC.out; omega) (by have := HC.out; omega) _))))
  refine wpQuiet_nil ?_
  rintro _ ⟨y, rfl⟩
  go_wp2_with fail
  go_ret
  exact ⟨retI (by rw [HQ.out, if_neg (by omega)]), below_trans hb02 y.bel⟩

theorem cells_lt (t r : Int) (h3 : 0 ≤ r) (h4 : r < ringsP t) : 0 ≤ cellsP r ∧ cellsP r < cellsP (ringsP t) := by
  have h5 := rings_le t
  refine ⟨(cells_le r h3).1, ?_⟩
  rcases (show ringsP t = 1 ∨ ringsP t = 2 ∨ ringsP t = 3 ∨ ringsP t = 4 ∨ ringsP t = 5 by omega) with h | h | h | h | h <;> rw [h] at h4 ⊢ <;> rcases (show r = 0 ∨ r = 1 ∨ r = 2 ∨ r = 3 ∨ r = 4 by omega) with rfl | rfl | rfl | rfl | rfl <;> first | decide | omega

theorem ringV_in (s t g seat r : Int) (h1 : 0 ≤ seat) (h2 : seat < s) (h3 : 0 ≤ r) (h4 : r < ringsP t) : ringV s t g seat r = g + seat * cellsP (ringsP t) + cellsP r := by
  have hc := cells_lt t r h3 h4
  unfold ringV
  rw [if_neg (by omega)]
  unfold atL
  rw [if_neg (by omega), Int.sub_zero]

theorem ringV_out (s t g seat r : Int) (h : seat < 0 ∨ s ≤ seat ∨ r < 0 ∨ ringsP t ≤ r) : ringV s t g seat r = -1 := by
  unfold ringV
  split
  · rfl
  · unfold atL; rw [if_pos (by omega)]

theorem quiet_load_K {P : Program} {C : World → Prop} {K : Act → Prop} {op : Oper} {a : Act} (ty : TypeId) (x : Operand) (ho : op.op = .load ty x)
    (b o : Nat) (hx : a.eval x = .pointer (some ⟨b, o, none⟩)) (cs : List Value) (d : TypeDesc) (hc : ∀ w, C w → w.rangeAt b o cs)
    (hu : P.underlying ty = some d) (hd : d.isRow = true) (hi : (P.info? ty).map (·.size) = some cs.length)
    (h : K (a.put op.dst (.agg cs.toArray))) : op.quiet P a C K := by
  refine ⟨.agg cs.toArray, fun w hcw => ?_, h⟩
  unfold Oper.quietAt execOp
  simp only [ho, hx, Instr.loadAt, Instr.sureAddr, Sem.run_bind, Sem.run_pure, Result.andThen_ok, run_loadVar_mid w b o ty cs d (hc w hcw) hu hd hi]
  exact ⟨rfl, rfl⟩

theorem enough_at (t r : Int) (ht : 1 ≤ t ∧ t ≤ 64) (h0 : 0 ≤ r) (h1 : r < ringsP t) : decide (t ≤ sizeP r) = (r == ringsP t - 1) := by
  have h5 := rings_le t
  rw [Bool.eq_iff_iff, beq_iff_eq, decide_eq_true_iff]
  rcases (show r = 0 ∨ r = 1 ∨ r = 2 ∨ r = 3 ∨ r = 4 by omega) with rfl | rfl | rfl | rfl | rfl
  · rw [show sizeP 0 = 4 from rfl]; unfold ringsP at *; repeat' split
    all_goals omega
  · rw [show sizeP 1 = 8 from rfl]; unfold ringsP at *; repeat' split
    all_goals omega
  · rw [show sizeP 2 = 16 from rfl]; unfold ringsP at *; repeat' split
    all_goals omega
  · rw [show sizeP 3 = 32 from rfl]; unfold ringsP at *; repeat' split
    all_goals omega
  · rw [show sizeP 4 = 64 from rfl]; unfold ringsP at *; repeat' split
    all_goals omega

theorem twice_at (r : Int) (h0 : 1 ≤ r) (h1 : r ≤ 4) : sizeP r = 2 * sizeP (r - 1) := by
  rcases (show r = 1 ∨ r = 2 ∨ r = 3 ∨ r = 4 by omega) with rfl | rfl | rfl | rfl <;> decide

end Go.Proofs.Ytbaeckehchpfaaa
