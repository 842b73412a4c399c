/-
  SP: places; ahead; parallel.
-/
import Derived.Test.YtjpimaiogdckpaaSpA
import Derived.Test.YtjpimaiogdckpaaAfter
import Derived.Test.YtjpimaiogdckpaaSpP
namespace Go.Proofs.Ytjpimaiogdckpaa
open Go.ChangeShapes Go.WideShapes Go.ChangeAt Go.RowKit Go.Sort

/-- a slice of pairs of numbers -/
structure Pls (w : World) (p : Option Addr) (os : List (Int × Int)) : Prop where
  at_ : ∀ i, i < os.length → ∃ b off, p = some ⟨b, off, none⟩ ∧ b < w.heap.size ∧ w.cell? ⟨b, off + i * 2, none⟩ = some (.int .i64 (os.getD i (0, 0)).1) ∧ w.cell? ⟨b, off + i * 2 + 1, none⟩ = some (.int .i64 (os.getD i (0, 0)).2)
theorem Pls.later {w w1 : World} {p : Option Addr} {os : List (Int × Int)} (h : Pls w p os) (hb : Below w.heap.size w w1) : Pls w1 p os :=
  ⟨fun i hi => by
    obtain ⟨b, off, h1, h2, h3, h4⟩ := h.at_ i hi
    exact ⟨b, off, h1, Nat.lt_of_lt_of_le h2 hb.size, by rw [hb.cell (p := ⟨b, _, none⟩) h2]; exact h3, by rw [hb.cell (p := ⟨b, _, none⟩) h2]; exact h4⟩⟩
theorem place_any (p : Option Addr) (n c x : Nat) (hx : x < n) (w : World) : Calls Try.prog 20 #[.slice p n c, .int .i64 x] w fun e w' => e = .returned (.bool true) ∧ Below w.heap.size w w' := by
  have d1 : decide ((0 : Int) ≤ x) = true := by simp
  have d2 : decide ((x : Int) < n) = true := by simp; omega
  go_enter Try.func20, Try.ntmps20
  go_wp2_with fail
  go_ret
  exact ⟨rfl, Below.refl _ _⟩

set_option maxRecDepth 100000 in
set_option maxHeartbeats 8000000 in
theorem ahead_any (os : List (Int × Int)) (n : Nat) (hl : os.length = n) (p : Option Addr) (c x y : Nat) (hx : x < n) (hy : y < n) (w : World) (h : Pls w p os) :
    Calls Try.prog 12 #[.slice p n c, .int .i64 x, .int .i64 y] w fun e w' => e = .returned (.bool (aheadP os x y)) ∧ Below w.heap.size w w' := by
  obtain ⟨b, off, rfl, hlb, x1, x2⟩ := h.at_ x (by omega)
  obtain ⟨b', off', he, -, y1, y2⟩ := h.at_ y (by omega)
  simp only [Option.some.injEq, Addr.mk.injEq, and_true] at he
  obtain ⟨rfl, rfl⟩ := he
  unfold aheadP
  obtain ⟨⟨u1, u2⟩, hu⟩ : ∃ u, os.getD x (0, 0) = u := ⟨_, rfl⟩
  obtain ⟨⟨v1, v2⟩, hv⟩ : ∃ u, os.getD y (0, 0) = u := ⟨_, rfl⟩
  rw [hu] at x1 x2 ⊢
  rw [hv] at y1 y2 ⊢
  dsimp only at x1 x2 y1 y2 ⊢
  have i1 : (0 : Int) ≤ x := by omega
  have i2 : (0 : Int) ≤ y := by omega
  have i3 : (x : Int) < n := by omega
  have i4 : (y : Int) < n := by omega
  have g1 : ∀ z : After w, World.cell? z.w ⟨b, off + x * 2, none⟩ = some (.int .i64 u1) := fun z => (z.cell hlb).trans x1
  have g2 : ∀ z : After w, World.cell? z.w ⟨b, off + x * 2 + 1, none⟩ = some (.int .i64 u2) := fun z => (z.cell hlb).trans x2
  have g3 : ∀ z : After w, World.cell? z.w ⟨b, off + y * 2, none⟩ = some (.int .i64 v1) := fun z => (z.cell hlb).trans y1
  have g4 : ∀ z : After w, World.cell? z.w ⟨b, off + y * 2 + 1, none⟩ = some (.int .i64 v2) := fun z => (z.cell hlb).trans y2
  have HP1 := Lib.hid fun (z : After w) => place_any (some ⟨b, off, none⟩) n c x hx z.w
  have HP2 := Lib.hid fun (z : After w) => place_any (some ⟨b, off, none⟩) n c y hy z.w
  clear h hl hu hv x1 x2 y1 y2
  by_cases h1 : u1 < v1
  · have d1 : decide (u1 < v1) = true := by simpa using h1
    obtain ⟨R, hR⟩ : ∃ R, decide (u2 < v2) = R := ⟨_, rfl⟩
    rw [d1, hR]
    clear h1
    go_enter Try.func12, Try.ntmps12
    go_wp2_with fail
    refine wp_region_after (by kernel_rfl) (by kernel_rfl) ?_
    repeat (go_big_quiet_step (first | (go_at_call 20; with_reducible exact calls_after (HP1.out _)) | (go_at_call 20; with_reducible exact calls_after (HP2.out _))))
    refine wpQuiet_nil ?_
    rintro _ ⟨z, rfl⟩
    have HZ := Lib.hid z.bel
    go_wp2_with fail
    go_ret
    exact ⟨by simp, HZ.out⟩
  · have d1 : decide (u1 < v1) = false := by simpa using h1
    rw [d1]
    clear h1
    go_enter Try.func12, Try.ntmps12
    go_wp2_with fail
    refine wp_region_after (by kernel_rfl) (by kernel_rfl) ?_
    repeat (go_big_quiet_step (first | (go_at_call 20; with_reducible exact calls_after (HP1.out _)) | (go_at_call 20; with_reducible exact calls_after (HP2.out _))))
    refine wpQuiet_nil ?_
    rintro _ ⟨z, rfl⟩
    have HZ := Lib.hid z.bel
    go_wp2_with fail
    go_ret
    exact ⟨by simp, HZ.out⟩

set_option maxRecDepth 100000 in
set_option maxHeartbeats 8000000 in
theorem par_any (os : List (Int × Int)) (n : Nat) (hl : os.length = n) (p : Option Addr) (c x y : Nat) (hx : x < n) (hy : y < n) (w : World) (h : Pls w p os) :
    Calls Try.prog 13 #[.slice p n c, .int .i64 x, .int .i64 y] w fun e w' => e = .returned (.bool (parP os x y)) ∧ Below w.heap.size w w' := by
  unfold parP
  have HP1 := Lib.hid fun wx => place_any p n c x hx wx
  have HP2 := Lib.hid fun wx => place_any p n c y hy wx
  obtain ⟨A1, hA1⟩ : ∃ A, aheadP os x y = A := ⟨_, rfl⟩
  obtain ⟨A2, hA2⟩ : ∃ A, aheadP os y x = A := ⟨_, rfl⟩
  have HC1 := Lib.hid fun wx (hb : Below w.heap.size w wx) => (show Calls Try.prog 12 #[.slice p n c, .int .i64 x, .int .i64 y] wx fun e w' => e = .returned (.bool A1) ∧ Below wx.heap.size wx w' from hA1 ▸ ahead_any os n hl p c x y hx hy wx (h.later hb))
  have HC2 := Lib.hid fun wx (hb : Below w.heap.size w wx) => (show Calls Try.prog 12 #[.slice p n c, .int .i64 y, .int .i64 x] wx fun e w' => e = .returned (.bool A2) ∧ Below wx.heap.size wx w' from hA2 ▸ ahead_any os n hl p c y x hy hx wx (h.later hb))
  rw [hA1, hA2]
  clear h hl hA1 hA2
  by_cases hxy : x = y
  · have m1 : ((x : Int) != (y : Int)) = false := by simp; omega
    have m2 : ((x : Int) == (y : Int)) = true := by simp; omega
    have m3 : decide ((x : Int) = (y : Int)) = true := by simp; omega
    have HE := Lib.hid hxy
    clear hxy
    go_enter Try.func13, Try.ntmps13
    go_wp2_with fail
    refine (HP1.out _).mono ?_
    rintro e w1 ⟨rfl, hb1⟩
    have B1 := Lib.hid hb1
    clear hb1
    go_wp2_with fail
    refine (HP2.out _).mono ?_
    rintro e w2 ⟨rfl, hb2⟩
    have B2 := Lib.hid (below_trans B1.out hb2)
    clear hb2
    go_wp2_with fail
    go_ret
    exact ⟨by have := HE.out; simp [this], B2.out⟩
  · have m1 : ((x : Int) != (y : Int)) = true := by simp; omega
    have m2 : ((x : Int) == (y : Int)) = false := by simp; omega
    have m3 : decide ((x : Int) = (y : Int)) = false := by simp; omega
    have HE := Lib.hid hxy
    clear hxy
    go_enter Try.func13, Try.ntmps13
    go_wp2_with fail
    refine (HP1.out _).mono ?_
    rintro e w1 ⟨rfl, hb1⟩
    have B1 := Lib.hid hb1
    clear hb1
    go_wp2_with fail
    refine (HP2.out _).mono ?_
    rintro e w2 ⟨rfl, hb2⟩
    have B2 := Lib.hid (below_trans B1.out hb2)
    clear hb2
    go_wp2_with fail
    refine (HC1.out _ B2.out).mono ?_
    rintro e w3 ⟨rfl, hb3⟩
    have B3 := Lib.hid (below_trans B2.out hb3)
    clear hb3
    cases A1 with
    | true =>
      go_wp2_with fail
      go_ret
      exact ⟨by have := HE.out; simp [this], B3.out⟩
    | false =>
      go_wp2_with fail
      refine (HC2.out _ B3.out).mono ?_
      rintro e w4 ⟨rfl, hb4⟩
      have B4 := Lib.hid (below_trans B3.out hb4)
      clear hb4
      go_wp2_with fail
      go_ret
      exact ⟨by have := HE.out; simp [this], B4.out⟩
end Go.Proofs.Ytjpimaiogdckpaa
