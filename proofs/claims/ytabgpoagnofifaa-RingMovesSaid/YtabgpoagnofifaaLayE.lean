/-
  RING: places, its closure, Place.
-/
import Derived.Test.YtabgpoagnofifaaRows
import Derived.ProofKit
import Derived.Test.YtabgpoagnofifaaLayD
namespace Go.Proofs.Ytabgpoagnofifaa
open Go.ChangeShapes Go.WideShapes Go.ChangeAt Go.RowKit

theorem bel_drewN {B : Nat} {w x : World} (h : Below B w x) : ∀ n, Below B w (x.drewN n)
  | 0 => h
  | n + 1 => (bel_drewN h n).drew

theorem of_any (b z i : Int) (B C : Nat) (hz : 0 < z ∧ z ≤ 200000) (hb : 0 ≤ b ∧ b ≤ 200000) (hi : 0 ≤ i) (w : World) (hB : w.cell? ⟨B, 0, none⟩ = some (.int .i64 b)) (hC : w.cell? ⟨C, 0, none⟩ = some (.int .i64 z)) :
    Calls Try.prog 34 #[.int .i64 i, .pointer (some ⟨B, 0, none⟩), .pointer (some ⟨C, 0, none⟩)] w fun e w' => e = .returned (.int .i64 (b + i % z)) ∧ Below w.heap.size w w' := by
  obtain ⟨R, hR⟩ : ∃ R, i % z = R := ⟨_, rfl⟩
  have hR2 : 0 ≤ R ∧ R < z := by rw [← hR]; exact ⟨Int.emod_nonneg _ (by omega), Int.emod_lt_of_pos _ hz.1⟩
  have hT : Int.tmod i z = R := by rw [Int.tmod_eq_emod_of_nonneg hi, hR]
  have hz0 : z ≠ 0 := by omega
  rw [hR]
  clear hR
  have hw1 : wrap64 R = R := by unfold wrap64; omega
  have hw2 : wrap64 (b + R) = b + R := by unfold wrap64; omega
  have hw3 : IntKind.i64.wrap R = R := by rw [IntKind.wrap_i64]; omega
  have hw4 : IntKind.i64.wrap (b + R) = b + R := by rw [IntKind.wrap_i64]; omega
  go_enter Try.func34, Try.ntmps34
  go_wp2_with fail
  go_quiet (fail)
  go_wp2_with fail
  go_ret
  exact ⟨retI (by first | rfl | omega), bel_drewN (Below.refl _ w) _⟩

/-- what 'places' hands out: a closure over two boxes, and whether there is that ring -/
def PlacesPost (w : World) (b z : Int) (e : Ending) (w' : World) : Prop :=
  ∃ B C : Nat, e = .returned (.tuple #[.func (Fn.func 34) #[] #[.pointer (some ⟨B, 0, none⟩), .pointer (some ⟨C, 0, none⟩)], .bool (decide (0 ≤ b) && decide (0 < z))]) ∧ Below w.heap.size w w' ∧
    w.heap.size ≤ B ∧ w.heap.size ≤ C ∧ w'.cell? ⟨B, 0, none⟩ = some (.int .i64 b) ∧ w'.cell? ⟨C, 0, none⟩ = some (.int .i64 z)

set_option maxHeartbeats 2000000 in
theorem places_lay (X : Array Value) (s t g seat r : Int) (hsz : X.size = 25) (h0 : X[0]? = some (.int .i64 s)) (h4 : X[4]? = some (.int .i64 t)) (h17 : X[17]? = some (.int .i64 g)) (hs : 1 ≤ s ∧ s ≤ 8) (hg : 0 ≤ g ∧ g ≤ 100000) (w : World) :
    Calls Try.prog 23 #[.agg X, .int .i64 seat, .int .i64 r] w (PlacesPost w (ringP s t g seat r) (sizeP r)) := by
  have hbk : Blk (w.alloc (Obj.cells X 26)) w.heap.size 26 X := Blk.made w _ _
  have hb : Below w.heap.size w (w.alloc (Obj.cells X 26)) := (Below.refl _ w).alloc (Nat.le_refl _) _
  have hra : Hid (World.rangeAt (w.alloc (Obj.cells X 26)) w.heap.size 0 X.toList) := Lib.hid fun j v hv => by
    rw [Nat.zero_add, hbk.cell]; simpa using hv
  have hi2 : Hid ((Try.prog.info? 26).map (·.size) = some X.toList.length) := Lib.hid (by rw [Array.length_toList, hsz]; exact lay25)
  have HRL := Lib.hid fun w => ring_lay X s t g seat r hsz h0 h4 h17 hs hg w
  have HB := Lib.hid hb
  clear hbk hb hsz h0 h4 h17 hs hg
  obtain ⟨b, hbv⟩ : ∃ b, ringP s t g seat r = b := ⟨_, rfl⟩
  obtain ⟨z, hzv⟩ : ∃ z, sizeP r = z := ⟨_, rfl⟩
  have HSZ : Hid (∀ w, Calls Try.prog 10 #[.int .i64 r] w fun e w' => e = .returned (.int .i64 z) ∧ w' = w) := Lib.hid (hzv ▸ size_any r)
  rw [hbv] at HRL ⊢
  rw [hzv]
  clear hbv hzv
  have c1 : decide (0 ≤ b) = true ∨ decide (0 ≤ b) = false := by cases decide (0 ≤ b) <;> simp
  have c2 : decide (0 < z) = true ∨ decide (0 < z) = false := by cases decide (0 < z) <;> simp
  rcases c1 with d1 | d1
  all_goals rcases c2 with d2 | d2
  all_goals
    have D1 := Lib.hid d1
    have D2 := Lib.hid d2
    go_enter Try.func23, Try.ntmps23
    go_wp2_with (with_reducible (show wpList _ _ _ ({ dst := _, op := Op.load 26 _, type := _, pos := _, after := _, guard := none } :: _) _ _); refine wpList_load_mid rfl 26 _ rfl w.heap.size 0 rfl X.toList _ hra.out layFields rfl hi2.out ?_)
    refine (HRL.out _).mono ?_
    rintro e w2 ⟨rfl, hb2⟩
    have hb02 := HB.out.trans (hb2.mono HB.out.size)
    go_wp2_with fail
    refine (HSZ.out _).mono ?_
    rintro e w' ⟨rfl, rfl⟩
    go_wp2_with fail
    go_region
    go_wp2_with fail
    have hA : Blk ((w'.alloc (Obj.cells #[.int .i64 b] 3)).alloc (Obj.cells #[.int .i64 z] 3)) w'.heap.size 3 #[.int .i64 b] := (Blk.made w' _ _).alloc _
    have hC : Blk ((w'.alloc (Obj.cells #[.int .i64 b] 3)).alloc (Obj.cells #[.int .i64 z] 3)) (w'.heap.size + 1) 3 #[.int .i64 z] := by
      have := Blk.made (w'.alloc (Obj.cells #[.int .i64 b] 3)) 3 #[.int .i64 z]
      simpa [go_sem] using this
    go_ret2
    exact ⟨w'.heap.size, w'.heap.size + 1, by rw [D1.out, D2.out]; rfl, ((hb02.alloc hb02.size _).alloc (by simp [go_sem]; exact Nat.le_succ_of_le hb02.size) _).drew, hb02.size, Nat.le_succ_of_le hb02.size, (by simp [go_sem]), (by simp [go_sem])⟩

theorem size_le (r : Int) : 0 ≤ sizeP r ∧ sizeP r ≤ 131072 := by
  unfold sizeP
  repeat' split
  all_goals omega

theorem ring_le (s t g seat r : Int) (hs : 1 ≤ s ∧ s ≤ 8) (hg : 0 ≤ g ∧ g ≤ 100000) : -1 ≤ ringP s t g seat r ∧ ringP s t g seat r ≤ 110000 := by
  unfold ringP
  split
  · omega
  · rename_i h
    have h1 := cells_le (ringsP t) (by have := rings_le t; omega)
    have h2 := cells_le r (by omega)
    unfold atP
    split
    · omega
    · rename_i h3
      have h4 := Int.mul_nonneg (show 0 ≤ seat by omega) h1.1
      have h5 := Int.mul_le_mul (show seat ≤ 8 by omega) h1.2 h1.1 (by omega)
      omega

def placeP (b z i : Int) : Int := if b < 0 ∨ z ≤ 0 ∨ i < 0 then -1 else b + i % z

set_option maxHeartbeats 2000000 in
theorem place_lay (X : Array Value) (s t g seat r i : Int) (hsz : X.size = 25) (h0 : X[0]? = some (.int .i64 s)) (h4 : X[4]? = some (.int .i64 t)) (h17 : X[17]? = some (.int .i64 g)) (hs : 1 ≤ s ∧ s ≤ 8) (hg : 0 ≤ g ∧ g ≤ 100000) (w : World) :
    Calls Try.prog 12 #[.agg X, .int .i64 seat, .int .i64 r, .int .i64 i] w fun e w' => e = .returned (.int .i64 (placeP (ringP s t g seat r) (sizeP r) i)) ∧ Below w.heap.size w w' := by
  have hbk : Blk (w.alloc (Obj.cells X 26)) w.heap.size 26 X := Blk.made w _ _
  have hb : Below w.heap.size w (w.alloc (Obj.cells X 26)) := (Below.refl _ w).alloc (Nat.le_refl _) _
  have hra : Hid (World.rangeAt (w.alloc (Obj.cells X 26)) w.heap.size 0 X.toList) := Lib.hid fun j v hv => by
    rw [Nat.zero_add, hbk.cell]; simpa using hv
  have hi2 : Hid ((Try.prog.info? 26).map (·.size) = some X.toList.length) := Lib.hid (by rw [Array.length_toList, hsz]; exact lay25)
  have HPL := Lib.hid fun w => places_lay X s t g seat r hsz h0 h4 h17 hs hg w
  have HB := Lib.hid hb
  have hrl := ring_le s t g seat r hs hg
  have hsl := size_le r
  clear hbk hb hsz h0 h4 h17 hs hg
  obtain ⟨b, hbv⟩ : ∃ b, ringP s t g seat r = b := ⟨_, rfl⟩
  obtain ⟨z, hzv⟩ : ∃ z, sizeP r = z := ⟨_, rfl⟩
  rw [hbv] at HPL hrl ⊢
  rw [hzv] at HPL hsl ⊢
  clear hbv hzv
  have HQ : Hid (placeP b z i = if b < 0 ∨ z ≤ 0 ∨ i < 0 then -1 else b + i % z) := Lib.hid rfl
  by_cases q1 : 0 ≤ b ∧ 0 < z
  · have d1 : (decide (0 ≤ b) && decide (0 < z)) = true := by simp; exact q1
    by_cases q3 : i < 0
    · go_enter Try.func12, Try.ntmps12
      go_wp2_with (with_reducible (show wpList _ _ _ ({ dst := _, op := Op.load 26 _, type := _, pos := _, after := _, guard := none } :: _) _ _); refine wpList_load_mid rfl 26 _ rfl w.heap.size 0 rfl X.toList _ hra.out layFields rfl hi2.out ?_)
      refine (HPL.out _).mono ?_
      rintro e w2 ⟨B, C, rfl, hb2, hB, hC, cB, cC⟩
      rw [d1]
      go_wp2_with fail
      go_ret
      exact ⟨retI (by rw [HQ.out, if_pos (by omega)]), HB.out.trans (hb2.mono HB.out.size)⟩
    · go_enter Try.func12, Try.ntmps12
      go_wp2_with (with_reducible (show wpList _ _ _ ({ dst := _, op := Op.load 26 _, type := _, pos := _, after := _, guard := none } :: _) _ _); refine wpList_load_mid rfl 26 _ rfl w.heap.size 0 rfl X.toList _ hra.out layFields rfl hi2.out ?_)
      refine (HPL.out _).mono ?_
      rintro e w2 ⟨B, C, rfl, hb2, hB, hC, cB, cC⟩
      rw [d1]
      go_wp2_with fail
      refine (of_any b z i B C (by omega) (by omega) (by omega) w2 cB cC).mono ?_
      rintro e w3 ⟨rfl, hb3⟩
      go_wp2_with fail
      go_ret
      exact ⟨retI (by rw [HQ.out, if_neg (by omega)]), (HB.out.trans (hb2.mono HB.out.size)).trans (hb3.mono (HB.out.trans (hb2.mono HB.out.size)).size)⟩
  · have d1 : (decide (0 ≤ b) && decide (0 < z)) = false := by simp; omega
    go_enter Try.func12, Try.ntmps12
    go_wp2_with (with_reducible (show wpList _ _ _ ({ dst := _, op := Op.load 26 _, type := _, pos := _, after := _, guard := none } :: _) _ _); refine wpList_load_mid rfl 26 _ rfl w.heap.size 0 rfl X.toList _ hra.out layFields rfl hi2.out ?_)
    refine (HPL.out _).mono ?_
    rintro e w2 ⟨B, C, rfl, hb2, hB, hC, cB, cC⟩
    rw [d1]
    go_wp2_with fail
    go_ret
    exact ⟨retI (by rw [HQ.out, if_pos (by omega)]), HB.out.trans (hb2.mono HB.out.size)⟩
end Go.Proofs.Ytabgpoagnofifaa
