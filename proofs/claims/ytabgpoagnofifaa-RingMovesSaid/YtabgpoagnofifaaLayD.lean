/-
  LAYOUT: from0, at, Ring.
-/
import Derived.Test.YtabgpoagnofifaaRows
import Derived.ProofKit
import Derived.Test.YtabgpoagnofifaaLayC
import Derived.Test.YtabgpoagnofifaaAfter
namespace Go.Proofs.Ytabgpoagnofifaa
open Go.ChangeShapes Go.WideShapes Go.ChangeAt Go.RowKit

theorem from0_any (n many : Int) (w : World) : Calls Try.prog 29 #[.int .i64 n, .int .i64 many] w fun e w' => e = .returned (.agg #[.int .i64 n, .int .i64 0, .int .i64 many]) ∧ Below w.heap.size w w' := by
  go_enter Try.func29, Try.ntmps29
  go_wp2_with fail
  refine bodyPost_ret (v := .agg #[.int .i64 n, .int .i64 0, .int .i64 many]) (by simp [results, Try.results29, go_sem]) rfl ?_
  exact ⟨rfl, (Below.refl _ w).alloc (Nat.le_refl _) _⟩

def atP (first n many c i inner : Int) : Int := if n < 0 ∨ many ≤ n ∨ i < 0 ∨ inner ≤ i then -1 else first + n * c + i

theorem at_any (first n many c i inner : Int) (hf : 0 ≤ first ∧ first ≤ 100000) (hm : 0 ≤ many ∧ many ≤ 1000) (hc : 0 ≤ c ∧ c ≤ 1000) (hi : 0 ≤ inner ∧ inner ≤ 1000) (w : World) :
    Calls Try.prog 28 #[.int .i64 first, .agg #[.int .i64 n, .int .i64 0, .int .i64 many], .int .i64 c, .agg #[.int .i64 i, .int .i64 0, .int .i64 inner]] w fun e w' => e = .returned (.int .i64 (atP first n many c i inner)) ∧ Below w.heap.size w w' := by
  have hb : ∀ o1 o2, Below w.heap.size w ((w.alloc o1).alloc o2) := fun o1 o2 => ((Below.refl _ w).alloc (Nat.le_refl _) _).alloc (by simp [go_sem]) _
  have HB := Lib.hid hb
  clear hb
  by_cases h1 : n < 0
  · have HQ : Hid (atP first n many c i inner = -1) := Lib.hid (by unfold atP; rw [if_pos (by omega)])
    go_enter Try.func28, Try.ntmps28
    go_wp2_with fail
    go_ret
    exact ⟨retI HQ.out.symm, HB.out _ _⟩
  by_cases h2 : many ≤ n
  · have HQ : Hid (atP first n many c i inner = -1) := Lib.hid (by unfold atP; rw [if_pos (by omega)])
    go_enter Try.func28, Try.ntmps28
    go_wp2_with fail
    go_ret
    exact ⟨retI HQ.out.symm, HB.out _ _⟩
  by_cases h3 : i < 0
  · have HQ : Hid (atP first n many c i inner = -1) := Lib.hid (by unfold atP; rw [if_pos (by omega)])
    go_enter Try.func28, Try.ntmps28
    go_wp2_with fail
    go_ret
    exact ⟨retI HQ.out.symm, HB.out _ _⟩
  by_cases h4 : inner ≤ i
  · have HQ : Hid (atP first n many c i inner = -1) := Lib.hid (by unfold atP; rw [if_pos (by omega)])
    go_enter Try.func28, Try.ntmps28
    go_wp2_with fail
    go_ret
    exact ⟨retI HQ.out.symm, HB.out _ _⟩
  obtain ⟨P, hP⟩ : ∃ P, n * c = P := ⟨_, rfl⟩
  have hp : 0 ≤ P ∧ P ≤ 1000000 := by
    rw [← hP]
    exact ⟨Int.mul_nonneg (by omega) (by omega), by have := Int.mul_le_mul (show n ≤ 1000 by omega) (show c ≤ 1000 by omega) (by omega) (by omega); omega⟩
  have HQ : Hid (atP first n many c i inner = first + P + i) := Lib.hid (by unfold atP; rw [if_neg (by omega), hP])
  have hW1 : wrap64 P = P := by unfold wrap64; omega
  have hW3 : wrap64 (n * c) = P := by rw [hP]; exact hW1
  clear hW1
  go_enter Try.func28, Try.ntmps28
  go_wp2_with fail
  go_ret
  exact ⟨retI HQ.out.symm, HB.out _ _⟩

/-- the first cell of a seat's ring -/
def ringP (s t g seat r : Int) : Int := if r < 0 ∨ ringsP t ≤ r then -1 else atP g seat s (cellsP (ringsP t)) (cellsP r) (cellsP (ringsP t))

theorem rings_le (t : Int) : 1 ≤ ringsP t ∧ ringsP t ≤ 5 := by
  unfold ringsP
  repeat' split
  all_goals omega

theorem cells_le (n : Int) (h0 : 0 ≤ n) : 0 ≤ cellsP n ∧ cellsP n ≤ 124 := by
  unfold cellsP
  repeat' split
  all_goals omega

set_option maxHeartbeats 2000000 in
theorem ring_lay (X : Array Value) (s t g seat r : Int) (hsz : X.size = 25) (h0 : X[0]? = some (.int .i64 s)) (h4 : X[4]? = some (.int .i64 t)) (h17 : X[17]? = some (.int .i64 g)) (hs : 1 ≤ s ∧ s ≤ 8) (hg : 0 ≤ g ∧ g ≤ 100000) (w : World) :
    Calls Try.prog 21 #[.agg X, .int .i64 seat, .int .i64 r] w fun e w' => e = .returned (.int .i64 (ringP s t g seat r)) ∧ Below w.heap.size w w' := by
  have hbk : Blk (w.alloc (Obj.cells X 26)) w.heap.size 26 X := Blk.made w _ _
  have hb : Below w.heap.size w (w.alloc (Obj.cells X 26)) := (Below.refl _ w).alloc (Nat.le_refl _) _
  have hra : Hid (World.rangeAt (w.alloc (Obj.cells X 26)) w.heap.size 0 X.toList) := Lib.hid fun j v hv => by
    rw [Nat.zero_add, hbk.cell]; simpa using hv
  have hi2 : Hid ((Try.prog.info? 26).map (·.size) = some X.toList.length) := Lib.hid (by rw [Array.length_toList, hsz]; exact lay25)
  obtain ⟨q, hq⟩ : ∃ q, ringsP t = q := ⟨_, rfl⟩
  have hq5 : 1 ≤ q ∧ q ≤ 5 := hq ▸ rings_le t
  have HRL : Hid (∀ w, Calls Try.prog 17 #[.agg X] w fun e w' => e = .returned (.int .i64 q) ∧ Below w.heap.size w w') := Lib.hid (hq ▸ rings_lay X t h4)
  have HK := Lib.hid hbk
  have HB := Lib.hid hb
  have H0 := Lib.hid h0
  have H17 := Lib.hid h17
  clear hbk hb hsz h0 h4 h17
  have HQ : Hid (ringP s t g seat r = if r < 0 ∨ q ≤ r then -1 else atP g seat s (cellsP q) (cellsP r) (cellsP q)) := Lib.hid (by unfold ringP; rw [hq])
  clear hq
  have HC : Hid (0 ≤ cellsP q ∧ cellsP q ≤ 124) := Lib.hid (cells_le q (by omega))
  go_enter Try.func21, Try.ntmps21
  go_wp2_with (with_reducible (show wpList _ _ _ ({ dst := _, op := Op.load 26 _, type := _, pos := _, after := _, guard := none } :: _) _ _); refine wpList_load_mid rfl 26 _ rfl w.heap.size 0 rfl X.toList _ hra.out layFields rfl hi2.out ?_)
  refine (HRL.out _).mono ?_
  rintro e w2 ⟨rfl, hb2⟩
  have hb02 := HB.out.trans (hb2.mono HB.out.size)
  by_cases h1 : r < 0
  · go_wp2_with fail
    go_ret
    exact ⟨retI (by rw [HQ.out, if_pos (by omega)]), hb02⟩
  by_cases h2 : q ≤ r
  · go_wp2_with fail
    go_ret
    exact ⟨retI (by rw [HQ.out, if_pos (by omega)]), hb02⟩
  have HK2 := HK.out.later hb2
  have hlt := HK2.lt
  have HR : Hid (0 ≤ cellsP r ∧ cellsP r ≤ 124) := Lib.hid (cells_le r (by omega))
  go_wp2_with fail
  refine (cells_any q (by omega) (by omega) _).mono ?_
  rintro e w' ⟨rfl, rfl⟩
  go_wp2_with fail
  have x0 : ∀ y : After w', y.w.cell? ⟨w.heap.size, 0, none⟩ = some (.int .i64 s) := fun y => (y.cell hlt).trans ((HK2.cell 0).trans H0.out)
  have x17 : ∀ y : After w', y.w.cell? ⟨w.heap.size, 17, none⟩ = some (.int .i64 g) := fun y => (y.cell hlt).trans ((HK2.cell 17).trans H17.out)
  refine wp_region_after (by kernel_rfl) (by kernel_rfl) ?_
  repeat (go_big_quiet_step (first
    | (go_at_call 29; exact calls_after (from0_any _ _ _))
    | (go_at_call 31; exact calls_after ((cells_any r (by omega) (by omega) _).mono fun e w' ⟨h1, h2⟩ => ⟨h1, h2 ▸ Below.refl _ _⟩))
    | (go_at_call 28; exact calls_after (at_any g seat s (cellsP q) (cellsP r) (cellsP q) hg (by omega) (by have := HC.out; omega) (by have := HC.out; omega) _))))
  refine wpQuiet_nil ?_
  rintro _ ⟨y, rfl⟩
  go_wp2_with fail
  go_ret
  exact ⟨retI (by rw [HQ.out, if_neg (by omega)]), below_trans hb02 y.bel⟩
end Go.Proofs.Ytabgpoagnofifaa
