/-
  SP: the examples.
-/
import Derived.Test.YtjpimaiogdckpaaSpU
import Derived.ChangeKeysEq
namespace Go.Proofs.Ytjpimaiogdckpaa
open Go.ChangeShapes Go.WideShapes Go.ChangeAt Go.RowKit

theorem twoGuard : Try.prog.eqGuardType Try.prog.depth 34 = false := by kernel_rfl
theorem twoRow : Try.prog.underlying 34 = some (.array 2 3) := by kernel_rfl
theorem twoInt : Try.prog.underlying 3 = some (.int .i64) := by kernel_rfl
theorem two_eq (a b c d : Int) (w : World) : (Op.equalIn 10000 34 (.agg #[.int .i64 a, .int .i64 b]) (.agg #[.int .i64 c, .int .i64 d])).run Try.prog w = .ok ((a == c) && (b == d)) w := by
  obtain ⟨i0, hi0, hz0, hz1, hz2⟩ := info_parts intInfo
  have hce : Try.prog.cellsOf 3 = 1 := by kernel_rfl
  rw [run_equalIn_array w 9999 _ _ twoRow hi0, hce]
  have p1 : ∀ (x y : Int) (wx : World), (part 3 #[.int .i64 x, .int .i64 y] 0).run Try.prog wx = .ok (.int .i64 x) wx := fun x y wx => by simp [part, isAgg, run_underlying twoInt]
  have p2 : ∀ (x y : Int) (wx : World), (part 3 #[.int .i64 x, .int .i64 y] 1).run Try.prog wx = .ok (.int .i64 y) wx := fun x y wx => by simp [part, isAgg, run_underlying twoInt]
  have pe : ∀ (x y : Int) (wx : World), (Op.equalIn 9999 3 (.int .i64 x) (.int .i64 y)).run Try.prog wx = .ok (x == y) wx := fun x y wx => run_equalIn_int wx 9998 3 .i64 .i64 x y twoInt
  show (Op.eqItems 9999 3 1 _ _ [0, 1]).run Try.prog w = _
  cases hac : (a == c) <;> cases hbd : (b == d) <;> simp [Op.eqItems, p1, p2, pe, hac, hbd]

set_option maxRecDepth 100000 in
set_option maxHeartbeats 4000000 in
theorem psame_any (os : List (Int × Int)) (n : Nat) (hn : os.length = n) (hm : n ≤ 100000) (p q : Option Addr) (c d : Nat) (w : World) (ha : Pls w p os) (hb : Pls w q os) :
    Calls Try.prog 15 #[.slice p n c, .slice q n d] w fun e w' => e = .returned (.bool true) ∧ Below w.heap.size w w' := by
  have hgd := twoGuard
  have HN := Lib.hid hn
  clear hn
  go_enter Try.func15, Try.ntmps15
  go_wp2_with fail
  go_loopw [5] (fun i wr => ∃ k x : Nat, k ≤ n ∧ i = .int .i64 k ∧ wr = w.drewN x) (fun i _ => n - (intOf i).toNat)
  case atStart => exact ⟨0, 0, Nat.zero_le _, rfl, rfl⟩
  case round =>
    obtain ⟨k, x, hk, rfl, rfl⟩ := hrel
    by_cases hlt : k < n
    · obtain ⟨b1, o1, rfl, _, u0, u1⟩ := ha.at_ k (by rw [HN.out]; exact hlt)
      obtain ⟨b2, o2, rfl, _, v0, v1⟩ := hb.at_ k (by rw [HN.out]; exact hlt)
      obtain ⟨⟨y0, y1⟩, hy⟩ : ∃ y, os.getD k (0, 0) = y := ⟨_, rfl⟩
      rw [hy] at u0 u1 v0 v1
      dsimp only at u0 u1 v0 v1
      have heq : ∀ wx, (Op.equalIn 10000 34 (.agg #[.int .i64 y0, .int .i64 y1]) (.agg #[.int .i64 y0, .int .i64 y1])).run Try.prog wx = .ok true wx := fun wx => by
        have := two_eq y0 y1 y0 y1 wx
        simpa using this
      clear hy ha hb
      go_wp2_with fail
      go_quiet (fail)
      go_wp2_with fail
      go_roundw
      case rel => exact ⟨k + 1, x + nq, by omega, by go_num, by first | rfl | rw [World.drewN_drewN]⟩
      case measure => simp [intOf]; omega
    · obtain rfl : k = n := by omega
      go_wp2_with fail
      go_ret
      exact ⟨rfl, below_drewN (Below.refl _ _) _⟩

def plainL : List SplV := [⟨1, 0, 1, 2, 3⟩, ⟨2, 1, 0, 0, 3⟩, ⟨3, 2, 0, 0, 3⟩]
theorem plain_run : (spRun .zero plainL).map (fun s => (s.n, placesOf s)) = some (4, [(0, 0), (1, 2), (2, 1), (3, 3)]) := by decide
theorem plain_no : spRun .zero plainL.tail = none := by decide
theorem plain_any (w : World) : Calls Try.prog 14 #[] w fun e w' => ∃ g, e = .returned (.slice (some ⟨g, 0, none⟩) 3 3) ∧ Sds w' (some ⟨g, 0, none⟩) plainL ∧ Sds w' (some ⟨g, 5, none⟩) plainL.tail ∧ Below w.heap.size w w' := by
  obtain ⟨V, hV⟩ : ∃ V, V = w.alloc (Obj.cells #[.int .i64 1, .int .i64 0, .int .i64 1, .int .i64 2, .int .i64 3, .int .i64 2, .int .i64 1, .int .i64 0, .int .i64 0, .int .i64 3, .int .i64 3, .int .i64 2, .int .i64 0, .int .i64 0, .int .i64 3] 37) := ⟨_, rfl⟩
  have K : Blk V w.heap.size 37 #[.int .i64 1, .int .i64 0, .int .i64 1, .int .i64 2, .int .i64 3, .int .i64 2, .int .i64 1, .int .i64 0, .int .i64 0, .int .i64 3, .int .i64 3, .int .i64 2, .int .i64 0, .int .i64 0, .int .i64 3] := by rw [hV]; exact Blk.made _ _ _
  have HB : Hid (Below w.heap.size w V) := Lib.hid (by rw [hV]; exact below_alloc1 _ _)
  have H0 : Hid (Sds V (some ⟨w.heap.size, 0, none⟩) plainL) := Lib.hid ⟨fun i hi => ⟨_, 0, rfl, K.lt, by
    have : i = 0 ∨ i = 1 ∨ i = 2 := by have : i < 3 := hi; omega
    rcases this with rfl | rfl | rfl <;> exact ⟨K.cell _, K.cell _, K.cell _, K.cell _, K.cell _⟩⟩⟩
  have H1 : Hid (Sds V (some ⟨w.heap.size, 5, none⟩) plainL.tail) := Lib.hid ⟨fun i hi => ⟨_, 5, rfl, K.lt, by
    have : i = 0 ∨ i = 1 := by have : i < 2 := hi; omega
    rcases this with rfl | rfl <;> exact ⟨K.cell _, K.cell _, K.cell _, K.cell _, K.cell _⟩⟩⟩
  have HV := Lib.hid hV
  clear hV K
  go_enter Try.func14, Try.ntmps14
  go_wp2_with fail
  rw [← HV.out]
  go_ret
  exact ⟨_, rfl, H0.out, H1.out, HB.out⟩

theorem ahead_at (os : List (Int × Int)) (n : Nat) (hl : os.length = n) (p : Option Addr) (c x y : Nat) (X Y : Int) (hX : X = x) (hY : Y = y) (R : Bool) (hR : aheadP os x y = R) (hx : x < n) (hy : y < n) (w : World) (h : Pls w p os) :
    Calls Try.prog 12 #[.slice p n c, .int .i64 X, .int .i64 Y] w fun e w' => e = .returned (.bool R) ∧ Below w.heap.size w w' := by
  subst hX hY hR
  exact ahead_any os n hl p c x y hx hy w h
theorem par_at (os : List (Int × Int)) (n : Nat) (hl : os.length = n) (p : Option Addr) (c x y : Nat) (X Y : Int) (hX : X = x) (hY : Y = y) (R : Bool) (hR : parP os x y = R) (hx : x < n) (hy : y < n) (w : World) (h : Pls w p os) :
    Calls Try.prog 13 #[.slice p n c, .int .i64 X, .int .i64 Y] w fun e w' => e = .returned (.bool R) ∧ Below w.heap.size w w' := by
  subst hX hY hR
  exact par_any os n hl p c x y hx hy w h

set_option maxRecDepth 100000 in
set_option maxHeartbeats 8000000 in
theorem awake_any (w : World) : Calls Try.prog 8 #[] w fun e w' => e = .returned (.bool true) ∧ Below w.heap.size w w' := by
  obtain ⟨s, hs, hn, ho⟩ : ∃ s, spRun .zero plainL = some s ∧ s.n = 4 ∧ placesOf s = [(0, 0), (1, 2), (2, 1), (3, 3)] := by
    have := plain_run
    obtain ⟨s, h1, h2⟩ := Option.map_eq_some_iff.1 this
    exact ⟨s, h1, (Prod.mk.inj h2).1, (Prod.mk.inj h2).2⟩
  have HRUN := Lib.hid hs
  have HSN := Lib.hid hn
  have HO := Lib.hid ho
  clear hs hn ho
  go_enter Try.func8, Try.ntmps8
  go_wp2_with fail
  refine (plain_any _).mono ?_
  rintro e w1 ⟨g1, rfl, p1, -, b1⟩
  have HP := Lib.hid p1
  have HB := Lib.hid b1
  clear p1 b1
  go_wp2_with fail
  refine (of_ok plainL 3 rfl (by omega) s HRUN.out _ 3 w1 HP.out).mono ?_
  rintro e w2 ⟨go, rfl, -, ps, b2⟩
  rw [HSN.out]
  rw [HO.out] at ps
  have HPS := Lib.hid ps
  have HB := Lib.hid (HB.out.trans (b2.mono HB.out.size))
  clear ps b2 HP
  go_wp2_with fail
  refine (plain_any _).mono ?_
  rintro e w3 ⟨g3, rfl, -, p3, b3⟩
  have HP := Lib.hid p3
  have HPS := Lib.hid (HPS.out.later b3)
  have HB := Lib.hid (HB.out.trans (b3.mono HB.out.size))
  clear p3 b3
  go_wp2_with fail
  refine (of_no plainL.tail 2 rfl (by omega) plain_no _ 2 w3 HP.out).mono ?_
  rintro e w4 ⟨rfl, b4⟩
  have HPS := Lib.hid (HPS.out.later b4)
  have HB := Lib.hid (HB.out.trans (b4.mono HB.out.size))
  clear b4 HP
  obtain ⟨V, hV⟩ : ∃ V, V = w4.alloc (Obj.cells #[.int .i64 0, .int .i64 0, .int .i64 1, .int .i64 2, .int .i64 2, .int .i64 1, .int .i64 3, .int .i64 3] 34) := ⟨_, rfl⟩
  have hbv : Below w4.heap.size w4 V := by rw [hV]; exact below_alloc1 _ _
  have K : Blk V w4.heap.size 34 #[.int .i64 0, .int .i64 0, .int .i64 1, .int .i64 2, .int .i64 2, .int .i64 1, .int .i64 3, .int .i64 3] := by rw [hV]; exact Blk.made _ _ _
  have HQ : Hid (Pls V (some ⟨w4.heap.size, 0, none⟩) [(0, 0), (1, 2), (2, 1), (3, 3)]) := Lib.hid ⟨fun i hi => ⟨_, 0, rfl, K.lt, by
    have : i = 0 ∨ i = 1 ∨ i = 2 ∨ i = 3 := by have : i < 4 := hi; omega
    rcases this with rfl | rfl | rfl | rfl <;> exact ⟨K.cell _, K.cell _⟩⟩⟩
  have HPS := Lib.hid (HPS.out.later hbv)
  have HB := Lib.hid (HB.out.trans (hbv.mono HB.out.size))
  have HV := Lib.hid hV
  clear hV hbv K
  go_wp2_with fail
  rw [← HV.out]
  refine (psame_any [(0, 0), (1, 2), (2, 1), (3, 3)] 4 rfl (by omega) _ _ _ _ V HPS.out HQ.out).mono ?_
  rintro e w5 ⟨rfl, b5⟩
  have HPS := Lib.hid (HPS.out.later b5)
  have HB := Lib.hid (HB.out.trans (b5.mono HB.out.size))
  clear b5 HQ HV
  go_wp2_with fail
  refine (par_at [(0, 0), (1, 2), (2, 1), (3, 3)] 4 rfl _ _ 1 2 _ _ rfl rfl true (by decide) (by omega) (by omega) _ HPS.out).mono ?_
  rintro e v0 ⟨rfl, b5⟩
  have HPS := Lib.hid (HPS.out.later b5)
  have HB := Lib.hid (HB.out.trans (b5.mono HB.out.size))
  clear b5
  go_wp2_with fail
  refine (ahead_at [(0, 0), (1, 2), (2, 1), (3, 3)] 4 rfl _ _ 1 3 _ _ rfl rfl true (by decide) (by omega) (by omega) _ HPS.out).mono ?_
  rintro e v1 ⟨rfl, b5⟩
  have HPS := Lib.hid (HPS.out.later b5)
  have HB := Lib.hid (HB.out.trans (b5.mono HB.out.size))
  clear b5
  go_wp2_with fail
  refine (ahead_at [(0, 0), (1, 2), (2, 1), (3, 3)] 4 rfl _ _ 2 3 _ _ rfl rfl true (by decide) (by omega) (by omega) _ HPS.out).mono ?_
  rintro e v2 ⟨rfl, b5⟩
  have HPS := Lib.hid (HPS.out.later b5)
  have HB := Lib.hid (HB.out.trans (b5.mono HB.out.size))
  clear b5
  go_wp2_with fail
  refine (ahead_at [(0, 0), (1, 2), (2, 1), (3, 3)] 4 rfl _ _ 3 1 _ _ rfl rfl false (by decide) (by omega) (by omega) _ HPS.out).mono ?_
  rintro e v3 ⟨rfl, b5⟩
  have HPS := Lib.hid (HPS.out.later b5)
  have HB := Lib.hid (HB.out.trans (b5.mono HB.out.size))
  clear b5
  go_wp2_with fail
  refine (par_at [(0, 0), (1, 2), (2, 1), (3, 3)] 4 rfl _ _ 0 1 _ _ rfl rfl false (by decide) (by omega) (by omega) _ HPS.out).mono ?_
  rintro e v4 ⟨rfl, b5⟩
  have HPS := Lib.hid (HPS.out.later b5)
  have HB := Lib.hid (HB.out.trans (b5.mono HB.out.size))
  clear b5
  go_wp2_with fail
  go_ret
  exact ⟨rfl, HB.out⟩
end Go.Proofs.Ytjpimaiogdckpaa
