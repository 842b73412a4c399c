/-
  RING: Moves, where nothing may be moved, and whatever; the document's Moves; Pairs.
-/
import Derived.Test.YtabgpoagnofifaaRows
import Derived.ProofKit
import Derived.OwnWalk
import Derived.LoopTactic
import Derived.Test.YtabgpoagnofifaaRingS
import Derived.Test.YtabgpoagnofifaaTail
namespace Go.Proofs.Ytabgpoagnofifaa
open Go.ChangeShapes Go.WideShapes Go.ChangeAt Go.RowKit

theorem quiet_load_K {P : Program} {C : World → Prop} {K : Act → Prop} {op : Oper} {a : Act} (ty : TypeId) (x : Operand) (ho : op.op = .load ty x)
    (b o : Nat) (hx : a.eval x = .pointer (some ⟨b, o, none⟩)) (cs : List Value) (d : TypeDesc) (hc : ∀ w, C w → w.rangeAt b o cs)
    (hu : P.underlying ty = some d) (hd : d.isRow = true) (hi : (P.info? ty).map (·.size) = some cs.length)
    (h : K (a.put op.dst (.agg cs.toArray))) : op.quiet P a C K := by
  refine ⟨.agg cs.toArray, fun w hcw => ?_, h⟩
  unfold Oper.quietAt execOp
  simp only [ho, hx, Instr.loadAt, Instr.sureAddr, Sem.run_bind, Sem.run_pure, Result.andThen_ok, run_loadVar_mid w b o ty cs d (hc w hcw) hu hd hi]
  exact ⟨rfl, rfl⟩

def okP (b1 z1 b2 z2 top bottom : Int) : Bool := rfitsP b1 z1 top bottom && (decide (0 ≤ b2) && decide (0 < z2))

def movesN (b1 z1 b2 z2 top bottom : Int) : Nat := if okP b1 z1 b2 z2 top bottom = true then (bottom - top).toNat else 0

def MovesAny (w : World) (b1 z1 b2 z2 top : Int) (n : Nat) (e : Ending) (w' : World) : Prop :=
  ∃ p cap, e = .returned (.slice p n cap) ∧ Cells w' p (pairsP b1 z1 b2 z2 top n) ∧ Below w.heap.size w w'

set_option maxHeartbeats 4000000 in
theorem moves_no (X : Array Value) (s t g seat r r2 top bottom : Int) (hsz : X.size = 25) (h0 : X[0]? = some (.int .i64 s)) (h4 : X[4]? = some (.int .i64 t)) (h17 : X[17]? = some (.int .i64 g)) (hs : 1 ≤ s ∧ s ≤ 8) (hg : 0 ≤ g ∧ g ≤ 100000)
    (hr2 : wrap64 (r + 1) = r2) (ht : -9223372036854775808 ≤ top ∧ top ≤ 9223372036854775807) (hb : -9223372036854775808 ≤ bottom ∧ bottom ≤ 9223372036854775807)
    (hno : okP (ringP s t g seat r) (sizeP r) (ringP s t g seat r2) (sizeP r2) top bottom = false) (w : World) :
    Calls Try.prog 15 #[.agg X, .int .i64 seat, .int .i64 r, .int .i64 top, .int .i64 bottom] w fun e w' => e = .returned (.slice none 0 0) ∧ Below w.heap.size w w' := by
  have hbk : Blk (w.alloc (Obj.cells X 26)) w.heap.size 26 X := Blk.made w _ _
  have hb : Below w.heap.size w (w.alloc (Obj.cells X 26)) := (Below.refl _ w).alloc (Nat.le_refl _) _
  have hra : Hid (∀ wx, Below (w.heap.size + 1) (w.alloc (Obj.cells X 26)) wx → World.rangeAt wx w.heap.size 0 X.toList) := Lib.hid fun wx hx j v hv => by
    have h1 : Below (w.alloc (Obj.cells X 26)).heap.size (w.alloc (Obj.cells X 26)) wx := by simpa [go_sem] using hx
    rw [Nat.zero_add, (hbk.later h1).cell]; simpa using hv
  have hi2 : Hid ((Try.prog.info? 26).map (·.size) = some X.toList.length) := Lib.hid (by rw [Array.length_toList, hsz]; exact lay25)
  have HP1 := Lib.hid fun w => places_lay X s t g seat r hsz h0 h4 h17 hs hg w
  have HP2 := Lib.hid fun w => places_lay X s t g seat r2 hsz h0 h4 h17 hs hg w
  have HB := Lib.hid hb
  have HFT := Lib.hid fun w => fits_any r top bottom (by omega) (by omega) w
  obtain ⟨f, hf⟩ : ∃ f, fitsP r top bottom = f := ⟨_, rfl⟩
  have hff := hf
  unfold fitsP at hff
  rw [hf] at HFT
  clear hbk hb hsz h0 h4 h17 hs hg hf
  obtain ⟨b1, hbv1⟩ : ∃ b, ringP s t g seat r = b := ⟨_, rfl⟩
  obtain ⟨z1, hzv1⟩ : ∃ z, sizeP r = z := ⟨_, rfl⟩
  obtain ⟨b2, hbv2⟩ : ∃ b, ringP s t g seat r2 = b := ⟨_, rfl⟩
  obtain ⟨z2, hzv2⟩ : ∃ z, sizeP r2 = z := ⟨_, rfl⟩
  rw [hbv1] at HP1 hno
  rw [hbv2] at HP2 hno
  rw [hzv1] at HP1 hno hff
  rw [hzv2] at HP2 hno
  clear hbv1 hbv2 hzv1 hzv2
  obtain ⟨i1, hi1⟩ : ∃ i, (decide (0 ≤ b1) && decide (0 < z1)) = i := ⟨_, rfl⟩
  obtain ⟨i2, hi2'⟩ : ∃ i, (decide (0 ≤ b2) && decide (0 < z2)) = i := ⟨_, rfl⟩
  have hall : (i1 && (i2 && f)) = false := by
    rw [← hi1, ← hi2', ← hff]
    unfold okP rfitsP at hno
    cases h1 : decide (0 ≤ b1) <;> cases h2 : decide (0 < z1) <;> cases h3 : decide (0 ≤ b2) <;> cases h4 : decide (0 < z2) <;> simp [h1, h2, h3, h4] at hno ⊢
    · exact hno
  have I1 := Lib.hid hi1
  have I2 := Lib.hid hi2'
  clear hi1 hi2' hno hff
  cases i1 with
  | false =>
    clear hall
    go_enter Try.func15, Try.ntmps15
    go_wp2_with (with_reducible (show wpList _ _ _ ({ dst := _, op := Op.load 26 _, type := _, pos := _, after := _, guard := none } :: _) _ _); refine wpList_load_mid rfl 26 _ rfl w.heap.size 0 rfl X.toList _ (hra.out _ (Below.refl _ _)) layFields rfl hi2.out ?_)
    refine (HP1.out _).mono ?_
    rintro e w2 ⟨B1, C1, rfl, hw2, hB1, hC1, cB1, cC1⟩
    rw [I1.out]
    have hb02 := HB.out.trans (hw2.mono HB.out.size)
    have hw2' : Below (w.heap.size + 1) (w.alloc (Obj.cells X 26)) w2 := by simpa [go_sem] using hw2
    have HW2 := Lib.hid hw2'
    clear hw2' cB1 cC1 hB1 hC1 hw2
    go_wp2_with (with_reducible (show wpList _ _ _ ({ dst := _, op := Op.load 26 _, type := _, pos := _, after := _, guard := none } :: _) _ _); refine wpList_load_mid rfl 26 _ rfl w.heap.size 0 rfl X.toList _ (hra.out _ HW2.out) layFields rfl hi2.out ?_)
    refine (HP2.out _).mono ?_
    rintro e w3 ⟨B2, C2, rfl, hw3, hB2, hC2, cB2, cC2⟩
    rw [I2.out]
    have hb03 := hb02.trans (hw3.mono hb02.size)
    clear hw3 cB2 cC2 hB2 hC2
    go_wp2_with fail
    go_ret
    exact ⟨rfl, hb03⟩
  | true =>
    cases i2 with
    | false =>
      clear hall
      go_enter Try.func15, Try.ntmps15
      go_wp2_with (with_reducible (show wpList _ _ _ ({ dst := _, op := Op.load 26 _, type := _, pos := _, after := _, guard := none } :: _) _ _); refine wpList_load_mid rfl 26 _ rfl w.heap.size 0 rfl X.toList _ (hra.out _ (Below.refl _ _)) layFields rfl hi2.out ?_)
      refine (HP1.out _).mono ?_
      rintro e w2 ⟨B1, C1, rfl, hw2, hB1, hC1, cB1, cC1⟩
      rw [I1.out]
      have hb02 := HB.out.trans (hw2.mono HB.out.size)
      have hw2' : Below (w.heap.size + 1) (w.alloc (Obj.cells X 26)) w2 := by simpa [go_sem] using hw2
      have HW2 := Lib.hid hw2'
      clear hw2' cB1 cC1 hB1 hC1 hw2
      go_wp2_with (with_reducible (show wpList _ _ _ ({ dst := _, op := Op.load 26 _, type := _, pos := _, after := _, guard := none } :: _) _ _); refine wpList_load_mid rfl 26 _ rfl w.heap.size 0 rfl X.toList _ (hra.out _ HW2.out) layFields rfl hi2.out ?_)
      refine (HP2.out _).mono ?_
      rintro e w3 ⟨B2, C2, rfl, hw3, hB2, hC2, cB2, cC2⟩
      rw [I2.out]
      have hb03 := hb02.trans (hw3.mono hb02.size)
      clear hw3 cB2 cC2 hB2 hC2
      go_wp2_with fail
      go_ret
      exact ⟨rfl, hb03⟩
    | true =>
      have hf : f = false := by simpa using hall
      subst hf
      clear hall
      go_enter Try.func15, Try.ntmps15
      go_wp2_with (with_reducible (show wpList _ _ _ ({ dst := _, op := Op.load 26 _, type := _, pos := _, after := _, guard := none } :: _) _ _); refine wpList_load_mid rfl 26 _ rfl w.heap.size 0 rfl X.toList _ (hra.out _ (Below.refl _ _)) layFields rfl hi2.out ?_)
      refine (HP1.out _).mono ?_
      rintro e w2 ⟨B1, C1, rfl, hw2, hB1, hC1, cB1, cC1⟩
      rw [I1.out]
      have hb02 := HB.out.trans (hw2.mono HB.out.size)
      have hw2' : Below (w.heap.size + 1) (w.alloc (Obj.cells X 26)) w2 := by simpa [go_sem] using hw2
      have HW2 := Lib.hid hw2'
      clear hw2' cB1 cC1 hB1 hC1 hw2
      go_wp2_with (with_reducible (show wpList _ _ _ ({ dst := _, op := Op.load 26 _, type := _, pos := _, after := _, guard := none } :: _) _ _); refine wpList_load_mid rfl 26 _ rfl w.heap.size 0 rfl X.toList _ (hra.out _ HW2.out) layFields rfl hi2.out ?_)
      refine (HP2.out _).mono ?_
      rintro e w3 ⟨B2, C2, rfl, hw3, hB2, hC2, cB2, cC2⟩
      rw [I2.out]
      have hb03 := hb02.trans (hw3.mono hb02.size)
      clear hw3 cB2 cC2 hB2 hC2
      go_wp2_with fail
      refine (HFT.out _).mono ?_
      rintro e w' ⟨rfl, rfl⟩
      go_wp2_with fail
      go_ret
      exact ⟨rfl, hb03⟩

theorem moves_any (X : Array Value) (s t g seat r r2 top bottom : Int) (hsz : X.size = 25) (h0 : X[0]? = some (.int .i64 s)) (h4 : X[4]? = some (.int .i64 t)) (h17 : X[17]? = some (.int .i64 g)) (hs : 1 ≤ s ∧ s ≤ 8) (hg : 0 ≤ g ∧ g ≤ 100000)
    (hr2 : wrap64 (r + 1) = r2) (ht : -9223372036854775808 ≤ top ∧ top ≤ 9223372036854775807) (hb : -9223372036854775808 ≤ bottom ∧ bottom ≤ 9223372036854775807) (w : World) :
    Calls Try.prog 15 #[.agg X, .int .i64 seat, .int .i64 r, .int .i64 top, .int .i64 bottom] w (MovesAny w (ringP s t g seat r) (sizeP r) (ringP s t g seat r2) (sizeP r2) top (movesN (ringP s t g seat r) (sizeP r) (ringP s t g seat r2) (sizeP r2) top bottom)) := by
  cases hok : okP (ringP s t g seat r) (sizeP r) (ringP s t g seat r2) (sizeP r2) top bottom with
  | false =>
    refine (moves_no X s t g seat r r2 top bottom hsz h0 h4 h17 hs hg hr2 ht hb hok w).mono ?_
    rintro e w' ⟨rfl, hb'⟩
    unfold movesN
    rw [hok, if_neg Bool.false_ne_true]
    exact ⟨none, 0, rfl, ⟨fun i h => absurd h (by simp [pairsP])⟩, hb'⟩
  | true =>
    have hok2 := hok
    unfold okP rfitsP at hok
    simp only [Bool.and_eq_true, decide_eq_true_eq] at hok
    obtain ⟨⟨k1, k2, k3, k4, k5⟩, k6, k7⟩ := hok
    have hr : 0 ≤ r ∧ r ≤ 15 := by
      refine ⟨?_, ?_⟩
      · refine Int.not_lt.1 fun h => ?_
        unfold sizeP at k2; rw [if_pos h] at k2; omega
      · refine Int.not_lt.1 fun h => ?_
        unfold sizeP at k2
        rw [if_neg (by omega), if_neg (by omega), if_neg (by omega), if_neg (by omega), if_neg (by omega), if_neg (by omega), if_neg (by omega), if_neg (by omega), if_neg (by omega), if_neg (by omega), if_neg (by omega), if_neg (by omega), if_neg (by omega), if_neg (by omega), if_neg (by omega), if_neg (by omega), if_neg (by omega)] at k2
        omega
    have e2 : r2 = r + 1 := by rw [← hr2]; unfold wrap64; omega
    subst e2
    obtain ⟨n, hn⟩ : ∃ n : Nat, bottom - top = n := ⟨(bottom - top).toNat, by omega⟩
    have hbt : bottom = top + n := by omega
    subst hbt
    have hnn : movesN (ringP s t g seat r) (sizeP r) (ringP s t g seat (r + 1)) (sizeP (r + 1)) top (top + n) = n := by
      unfold movesN; rw [hok2, if_pos rfl]; omega
    rw [hnn]
    refine (moves_yes X s t g seat r top n hsz h0 h4 h17 hs hg k1 k6 k2 k7 (by omega) ⟨by omega, by omega⟩ ⟨k3, by omega⟩ w).mono ?_
    rintro e w' ⟨p, cap, rfl, hown, hb'⟩
    exact ⟨p, cap, rfl, Cells.of_own hown, hb'⟩
end Go.Proofs.Ytabgpoagnofifaa
