/-
  SP: mayBe, of all rows of up to three hundred splits.
-/
import Derived.Test.YtjpimaiogdckpaaSpM
import Derived.Maps.AppendAt
import Derived.Deep.RegionHeld3
import Derived.Test.YtjpimaiogdckpaaStep2
namespace Go.Proofs.Ytjpimaiogdckpaa
open Go.ChangeShapes Go.WideShapes Go.ChangeAt Go.RowKit

set_option maxRecDepth 100000 in
set_option maxHeartbeats 8000000 in
theorem mayBe_any (l : List SplV) (n : Nat) (hn : l.length = n) (hm : n ≤ 300) (p : Option Addr) (c : Nat) (w : World) (h : Sds w p l) :
    Calls Try.prog 16 #[.slice p n c] w fun e w' => e = .returned (.bool (spRun .zero l).isSome) ∧ Below w.heap.size w w' := by
  obtain ⟨i0, hi0⟩ : ∃ i, Try.prog.info? 50 = some i := ⟨_, rfl⟩
  have hz : (Try.prog.info? 50).map (fun i => (i.zero, i.size, i.bytes)) = some (some (.agg #[.int .i64 0, .int .i64 0]), 2, 16) := by kernel_rfl
  rw [hi0] at hz
  simp only [Option.map_some, Option.some.injEq, Prod.mk.injEq] at hz
  obtain ⟨hz0, hz1, hz2⟩ := hz
  have hgd := sdGuard
  have HN := Lib.hid hn
  have HS := Lib.hid h
  obtain ⟨V, hV⟩ : ∃ V, V = w.alloc (Obj.cells #[.int .i64 0, .int .i64 0] 50) := ⟨_, rfl⟩
  have O0 : V.ownsRow w.heap.size 50 2 (.slice (some ⟨w.heap.size, 0, none⟩) 1 1) 1 (tkV [(0, 0)]) :=
    ⟨rfl, .inr ⟨w.heap.size, 1, _, rfl, Nat.le_refl _, by rw [hV]; exact Blk.made _ _ _, Nat.le_refl _, by decide, rfl, rfl⟩⟩
  have HO0 := Lib.hid O0
  have HB0 : Hid (Below w.heap.size w V) := Lib.hid (by rw [hV]; exact below_alloc1 _ _)
  have HV := Lib.hid hV
  clear hV O0 h hn
  go_enter Try.func16, Try.ntmps16
  go_wp2_with fail
  rw [← HV.out]
  go_loopw [3, 4, 13] (fun vt vn vi wr => ∃ (i N : Nat) (st : List (Nat × Nat)) (E H : List Int), vi = .int .i64 i ∧ i ≤ n ∧ vn = .int .i64 N ∧ Hid (spRun .zero (l.take i) = some ⟨N, st, E, H⟩) ∧ st ≠ [] ∧ Hid (wr.ownsRow w.heap.size 50 2 vt st.length (tkV st.reverse)) ∧ Hid (Below w.heap.size w wr)) (fun _ _ vi _ => n - (intOf vi).toNat)
  case atStart => exact ⟨0, 1, [(0, 0)], [0], [0], rfl, Nat.zero_le _, rfl, Lib.hid rfl, by simp, HO0, HB0⟩
  case round =>
    obtain ⟨i, N, st, E, H, rfl, hi, rfl, HR, hst, HO, HB⟩ := hrel
    clear HO0 HB0 HV
    by_cases hlt : i < n
    · have hil : i < l.length := by rw [HN.out]; exact hlt
      obtain ⟨hok, -, -, hN1, hN2⟩ := run_ok _ zero_ok (by show 1 + _ ≤ _; rw [List.length_take]; omega) HR.out
      have HST := Lib.hid hok.st
      replace hN2 : N ≤ 1 + 3 * 300 := by rw [List.length_take] at hN2; dsimp only [SpS.zero] at hN2; omega
      replace hN1 : 1 ≤ N := hN1
      clear hok
      obtain ⟨⟨a, j⟩, r, rfl⟩ : ∃ t r, st = t :: r := by cases st with | nil => exact absurd rfl hst | cons t r => exact ⟨t, r, rfl⟩
      clear hst
      have haN : a < N := (HST.out (a, j) (by simp)).1
      have hjN : j < N := (HST.out (a, j) (by simp)).2
      obtain ⟨k, hk⟩ : ∃ k, r.length = k := ⟨_, rfl⟩
      have HK : Hid (r.reverse.length = k) := Lib.hid (by rw [List.length_reverse]; exact hk)
      have HKR := Lib.hid hk
      clear hk
      have hkb : k ≤ 300 := by
        have := run_st _ HR.out
        rw [List.length_take] at this
        simp only [SpS.zero, List.length_cons, List.length_nil] at this
        have := HKR.out
        omega
      have ho := HO.out
      rw [List.length_cons, HKR.out, List.reverse_cons] at ho
      obtain ⟨g, cap, cur, rfl, hg, hG, hc1, hc2, hc3, hT⟩ := task_row ho
      clear ho HO
      obtain ⟨t0, t1⟩ := task_top hG HK.out hT
      dsimp only at t0 t1
      have tf0 := hG.free (k * 2)
      have tf1 := hG.free (k * 2 + 1)
      have tl := hG.lt
      have HT := Lib.hid hT
      obtain ⟨⟨kd, A, B, C, D⟩, hx⟩ : ∃ x, l[i] = x := ⟨_, rfl⟩
      have HX := Lib.hid hx
      have hat := (HS.out.later HB.out).at_ i hil
      rw [hx] at hat
      obtain ⟨b, off, rfl, hb, g0, g1, g2, g3, g4⟩ := hat
      dsimp only at g0 g1 g2 g3 g4
      clear hx
      obtain ⟨V1, hV1⟩ : ∃ V1, V1 = wr.alloc (Obj.cells #[.int .i64 kd, .int .i64 A, .int .i64 B, .int .i64 C, .int .i64 D] 37) := ⟨_, rfl⟩
      have K1 : Blk V1 wr.heap.size 37 #[.int .i64 kd, .int .i64 A, .int .i64 B, .int .i64 C, .int .i64 D] := by rw [hV1]; exact Blk.made _ _ _
      have G1 : Blk V1 g 50 cur := by rw [hV1]; exact hG.alloc _
      have B1 : Below w.heap.size w V1 := by rw [hV1]; exact HB.out.alloc HB.out.size _
      have hgne : g ≠ wr.heap.size := by have := hG.lt; omega
      have HG1 := Lib.hid G1
      have HK1 := Lib.hid K1
      have HB1 := Lib.hid B1
      have HV1 := Lib.hid hV1
      clear hV1 K1 G1 B1 hG t0 t1 tf0 tf1 tl
      go_wp2_with fail
      rw [← HV1.out]
      have x0 : V1.cell? ⟨wr.heap.size, 0, none⟩ = some (.int .i64 kd) := HK1.out.cell 0
      have x1 : V1.cell? ⟨wr.heap.size, 1, none⟩ = some (.int .i64 A) := HK1.out.cell 1
      have x2 : V1.cell? ⟨wr.heap.size, 2, none⟩ = some (.int .i64 B) := HK1.out.cell 2
      have x3 : V1.cell? ⟨wr.heap.size, 3, none⟩ = some (.int .i64 C) := HK1.out.cell 3
      have x4 : V1.cell? ⟨wr.heap.size, 4, none⟩ = some (.int .i64 D) := HK1.out.cell 4
      have xl := HK1.out.lt
      obtain ⟨t0, t1⟩ := task_top HG1.out HK.out HT.out
      dsimp only at t0 t1
      have tl := HG1.out.lt
      have wk : IntKind.i64.wrap (k : Int) = k := by rw [IntKind.wrap_i64]; omega
      by_cases hA : A = (a : Int)
      · subst hA
        have m1 : ((a : Int) != (a : Int)) = false := by simp
        have m2 : ((a : Int) == (a : Int)) = true := by simp
        by_cases hk1 : kd = 1
        · subst hk1
          go_quiet (fail)
          go_wp2_with fail
          obtain ⟨V2, hV2⟩ : ∃ V, V = V1.drewN nq := ⟨_, rfl⟩
          have HKV2 : Hid (Blk V2 wr.heap.size 37 #[.int .i64 1, .int .i64 a, .int .i64 B, .int .i64 C, .int .i64 D]) := Lib.hid (by rw [hV2]; exact HK1.out.drawn _)
          have HGV2 : Hid (Blk V2 g 50 cur) := Lib.hid (by rw [hV2]; exact HG1.out.drawn _)
          have HBV2 : Hid (Below w.heap.size w V2) := Lib.hid (by rw [hV2]; exact below_drewN HB1.out _)
          rw [← hV2]
          clear hV2
          clear x0 x1 x2 x3 x4 xl t0 t1 tl
          have wN1 : IntKind.i64.wrap ((N : Int) + 1) = N + 1 := by rw [IntKind.wrap_i64]; omega
          have HZ : Hid (∀ wx, Below V2.heap.size V2 wx → wx.cell? ⟨wr.heap.size, 1, none⟩ = some (.int .i64 a) ∧ wx.cell? ⟨g, k * 2 + 1, none⟩ = some (.int .i64 j)) := Lib.hid fun wx hx => ⟨(HKV2.out.later hx).cell 1, (task_top (HGV2.out.later hx) HK.out HT.out).2⟩
          refine wp_region_noPanic ?_
          refine wp_region_held (S := fun wx => Below V2.heap.size V2 wx) (by kernel_rfl) ?_
          change wpAnyH _ _ _ _ _ _ _ _ (World.drew _)
          refine takeH_n (i := 0) (v := ?v1) rfl (by kernel_rfl) (by kernel_rfl) (by kernel_rfl) (fun _ _ _ h => h) (Or.inl ⟨by rfl, ?hy1⟩) ?hS1 (fun a' ha => ?rest1)
          case hy1 => (intro w hS; go_simp; try with_reducible rfl)
          case hS1 => exact (by show Below _ _ _; repeat (first | exact Below.refl _ _ | assumption | refine bel_drew ?_ | refine bel_alloc ?_ _ | refine bel_set ?_ _ _ _ (by first | exact Nat.le_refl _ | assumption)))
          simp [go_sem] at ha
          subst ha
          refine takeH_n (i := 1) (v := ?v2) rfl (by kernel_rfl) (by kernel_rfl) (by kernel_rfl) (fun _ _ _ h => h) (Or.inl ⟨by rfl, ?hy2⟩) ?hS2 (fun a' ha => ?rest2)
          case hy2 => (intro w hS; obtain ⟨z0, z1⟩ := HZ.out w hS; go_simp; try with_reducible rfl)
          case hS2 => exact (by show Below _ _ _; repeat (first | exact Below.refl _ _ | assumption | refine bel_drew ?_ | refine bel_alloc ?_ _ | refine bel_set ?_ _ _ _ (by first | exact Nat.le_refl _ | assumption)))
          simp [go_sem] at ha
          subst ha
          refine takeH_n (i := 2) (v := ?v3) rfl (by kernel_rfl) (by kernel_rfl) (by kernel_rfl) (fun _ _ _ h => h) (Or.inl ⟨by rfl, ?hy3⟩) ?hS3 (fun a' ha => ?rest3)
          case hy3 => (intro w hS; go_simp; try with_reducible rfl)
          case hS3 => exact (by show Below _ _ _; repeat (first | exact Below.refl _ _ | assumption | refine bel_drew ?_ | refine bel_alloc ?_ _ | refine bel_set ?_ _ _ _ (by first | exact Nat.le_refl _ | assumption)))
          simp [go_sem] at ha
          subst ha
          refine takeH_n (i := 3) (v := ?v4) rfl (by kernel_rfl) (by kernel_rfl) (by kernel_rfl) (fun _ _ _ h => h) (Or.inl ⟨by rfl, ?hy4⟩) ?hS4 (fun a' ha => ?rest4)
          case hy4 => (intro w hS; go_simp; try with_reducible rfl)
          case hS4 => exact (by show Below _ _ _; repeat (first | exact Below.refl _ _ | assumption | refine bel_drew ?_ | refine bel_alloc ?_ _ | refine bel_set ?_ _ _ _ (by first | exact Nat.le_refl _ | assumption)))
          simp [go_sem] at ha
          subst ha
          refine takeH_n (i := 4) (v := ?v5) rfl (by kernel_rfl) (by kernel_rfl) (by kernel_rfl) (fun _ _ _ h => h) (Or.inl ⟨by rfl, ?hy5⟩) ?hS5 (fun a' ha => ?rest5)
          case hy5 => (intro w hS; go_simp; try with_reducible rfl)
          case hS5 => exact (by show Below _ _ _; repeat (first | exact Below.refl _ _ | assumption | refine bel_drew ?_ | refine bel_alloc ?_ _ | refine bel_set ?_ _ _ _ (by first | exact Nat.le_refl _ | assumption)))
          simp [go_sem] at ha
          subst ha
          refine takeH_n (i := 5) (v := ?v6) rfl (by kernel_rfl) (by kernel_rfl) (by kernel_rfl) (fun _ _ _ h => h) (Or.inl ⟨by rfl, ?hy6⟩) ?hS6 (fun a' ha => ?rest6)
          case hy6 => (intro w hS; go_simp; try with_reducible rfl)
          case hS6 => exact (by show Below _ _ _; repeat (first | exact Below.refl _ _ | assumption | refine bel_drew ?_ | refine bel_alloc ?_ _ | refine bel_set ?_ _ _ _ (by first | exact Nat.le_refl _ | assumption)))
          simp [go_sem] at ha
          subst ha
          refine takeH_n (i := 6) (v := ?v7) rfl (by kernel_rfl) (by kernel_rfl) (by kernel_rfl) (fun _ _ _ h => h) (Or.inl ⟨by rfl, ?hy7⟩) ?hS7 (fun a' ha => ?rest7)
          case hy7 => (intro w hS; go_simp; try with_reducible rfl)
          case hS7 => exact (by show Below _ _ _; repeat (first | exact Below.refl _ _ | assumption | refine bel_drew ?_ | refine bel_alloc ?_ _ | refine bel_set ?_ _ _ _ (by first | exact Nat.le_refl _ | assumption)))
          simp [go_sem] at ha
          subst ha
          refine takeH_n (i := 7) (v := ?v8) rfl (by kernel_rfl) (by kernel_rfl) (by kernel_rfl) (fun _ _ _ h => h) (Or.inl ⟨by rfl, ?hy8⟩) ?hS8 (fun a' ha => ?rest8)
          case hy8 => (intro w hS; go_simp; try with_reducible rfl)
          case hS8 => exact (by show Below _ _ _; repeat (first | exact Below.refl _ _ | assumption | refine bel_drew ?_ | refine bel_alloc ?_ _ | refine bel_set ?_ _ _ _ (by first | exact Nat.le_refl _ | assumption)))
          simp [go_sem] at ha
          subst ha
          refine takeH_n (i := 8) (v := ?v9) rfl (by kernel_rfl) (by kernel_rfl) (by kernel_rfl) (fun _ _ _ h => h) (Or.inl ⟨by rfl, ?hy9⟩) ?hS9 (fun a' ha => ?rest9)
          case hy9 => (intro w hS; obtain ⟨z0, z1⟩ := HZ.out w hS; go_simp; try with_reducible rfl)
          case hS9 => exact (by show Below _ _ _; repeat (first | exact Below.refl _ _ | assumption | refine bel_drew ?_ | refine bel_alloc ?_ _ | refine bel_set ?_ _ _ _ (by first | exact Nat.le_refl _ | assumption)))
          simp [go_sem] at ha
          subst ha
          refine takeH_n (i := 9) (v := ?v10) rfl (by kernel_rfl) (by kernel_rfl) (by kernel_rfl) (fun _ _ _ h => h) (Or.inl ⟨by rfl, ?hy10⟩) ?hS10 (fun a' ha => ?rest10)
          case hy10 => (intro w hS; go_simp; try with_reducible rfl)
          case hS10 => exact (by show Below _ _ _; repeat (first | exact Below.refl _ _ | assumption | refine bel_drew ?_ | refine bel_alloc ?_ _ | refine bel_set ?_ _ _ _ (by first | exact Nat.le_refl _ | assumption)))
          simp [go_sem] at ha
          subst ha
          refine anyH_one (i := 10) rfl (by kernel_rfl) (fun K hK => ?_)
          go_simp
          refine hK.out _ _ (by show Below _ _ _; repeat (first | exact Below.refl _ _ | assumption | refine bel_drew ?_ | refine bel_alloc ?_ _ | refine bel_set ?_ _ _ _ (by first | exact Nat.le_refl _ | assumption))) ?_
          clear hK K
          refine anyH_one (i := 11) rfl (by kernel_rfl) (fun K hK => ?_)
          go_simp
          refine hK.out _ _ (by show Below _ _ _; repeat (first | exact Below.refl _ _ | assumption | refine bel_drew ?_ | refine bel_alloc ?_ _ | refine bel_set ?_ _ _ _ (by first | exact Nat.le_refl _ | assumption))) ?_
          clear hK K
          refine wpAnyH_done (by kernel_rfl) ?_ _
          refine NoPanic.normal ?_
          obtain ⟨V3, hV3⟩ : ∃ V3, V3 = (V2.alloc (Obj.cells #[.int .i64 1, .int .i64 (a : Int), .int .i64 (N : Int), .int .i64 ((N : Int) + 1), .int .i64 (j : Int)] 37)).drew := ⟨_, rfl⟩
          have hb3 : Below V2.heap.size V2 V3 := by rw [hV3]; exact (below_alloc1 _ _).drew
          have HK13 := Lib.hid (HKV2.out.later hb3)
          have HK23 : Hid (Blk V3 V2.heap.size 37 #[.int .i64 1, .int .i64 (a : Int), .int .i64 (N : Int), .int .i64 ((N : Int) + 1), .int .i64 (j : Int)]) := Lib.hid (by rw [hV3]; exact Blk.made V2 _ _)
          have HG3 := Lib.hid (HGV2.out.later hb3)
          have HB3 := Lib.hid (HBV2.out.trans (hb3.mono HBV2.out.size))
          have HWV : Hid (w.heap.size ≤ V2.heap.size) := Lib.hid HBV2.out.size
          have HNE2 : Hid (g ≠ V2.heap.size) := Lib.hid (Nat.ne_of_lt HGV2.out.lt)
          have ne1 : wr.heap.size ≠ V2.heap.size := Nat.ne_of_lt HKV2.out.lt
          have ne2 := HNE2.out
          rw [← hV3]
          clear hV3 hb3 HZ
          have x0 : V3.cell? ⟨wr.heap.size, 0, none⟩ = some (.int .i64 1) := HK13.out.cell 0
          have x1 : V3.cell? ⟨wr.heap.size, 1, none⟩ = some (.int .i64 a) := HK13.out.cell 1
          have x2 : V3.cell? ⟨wr.heap.size, 2, none⟩ = some (.int .i64 B) := HK13.out.cell 2
          have x3 : V3.cell? ⟨wr.heap.size, 3, none⟩ = some (.int .i64 C) := HK13.out.cell 3
          have x4 : V3.cell? ⟨wr.heap.size, 4, none⟩ = some (.int .i64 D) := HK13.out.cell 4
          have y0 : V3.cell? ⟨V2.heap.size, 0, none⟩ = some (.int .i64 1) := HK23.out.cell 0
          have y1 : V3.cell? ⟨V2.heap.size, 1, none⟩ = some (.int .i64 a) := HK23.out.cell 1
          have y2 : V3.cell? ⟨V2.heap.size, 2, none⟩ = some (.int .i64 N) := HK23.out.cell 2
          have y3 : V3.cell? ⟨V2.heap.size, 3, none⟩ = some (.int .i64 ((N : Int) + 1)) := HK23.out.cell 3
          have y4 : V3.cell? ⟨V2.heap.size, 4, none⟩ = some (.int .i64 j) := HK23.out.cell 4
          have yf := HK23.out.free 4
          have xl := HK13.out.lt
          have yl := HK23.out.lt
          obtain ⟨t0, t1⟩ := task_top HG3.out HK.out HT.out
          dsimp only at t0 t1
          have tl := HG3.out.lt
          have tf0 := HG3.out.free (k * 2)
          have tf1 := HG3.out.free (k * 2 + 1)
          have wN2 : IntKind.i64.wrap ((N : Int) + 2) = N + 2 := by rw [IntKind.wrap_i64]; omega
          have wN3 : IntKind.i64.wrap ((N : Int) + 2 + 1) = N + 3 := by rw [IntKind.wrap_i64]; omega
          have wN3' : IntKind.i64.wrap ((N : Int) + 3) = N + 3 := by rw [IntKind.wrap_i64]; omega
          by_cases hj : j = 0
          · have j1 : ((j : Int) == 0) = true := by simp [hj]
            have j2 : ((j : Int) != 0) = false := by simp [hj]
            have j3 : decide ((j : Int) = 0) = true := by simp [hj]
            subst hj
            by_cases hEq : (⟨1, a, B, C, D⟩ : SplV) = ⟨1, a, N, (N : Int) + 1, ((N : Int) + 2)⟩
            · have heq : ∀ wx, (Op.equalIn 10000 37 (.agg #[.int .i64 1, .int .i64 (a : Int), .int .i64 B, .int .i64 C, .int .i64 D]) (.agg #[.int .i64 1, .int .i64 (a : Int), .int .i64 (N : Int), .int .i64 ((N : Int) + 1), .int .i64 ((N : Int) + 2)])).run Try.prog wx = .ok true wx := fun wx => by
                have := sdEq ⟨1, (a : Int), B, C, D⟩ ⟨1, (a : Int), (N : Int), ((N : Int) + 1), ((N : Int) + 2)⟩ wx
                rw [decide_eq_true hEq] at this
                exact this
              have HR2 : Hid (spRun .zero (l.take (i + 1)) = some ⟨N + 3, (N, 0) :: (N + 1, N + 2) :: r, forkE E a N true, forkH H a N true⟩) := Lib.hid (by rw [run_take hil HR.out, HX.out]; exact st_fork0 hEq)
              simp only [SplV.mk.injEq, true_and] at hEq
              obtain ⟨rfl, rfl, rfl⟩ := hEq
              obtain ⟨V4, hV4⟩ : ∃ V4, V4 = V3.setCell ⟨V2.heap.size, 4, none⟩ (.int .i64 ((N : Int) + 2)) := ⟨_, rfl⟩
              have G4 : Blk V4 g 50 cur := by rw [hV4]; exact HG3.out.far HNE2.out _
              have B4 : Below w.heap.size w V4 := by rw [hV4]; exact HB3.out.setCell HWV.out _
              obtain ⟨V5, hV5⟩ : ∃ V5, V5 = (V4.setCell ⟨g, k * 2, none⟩ (.int .i64 ((N : Int) + 1))).setCell ⟨g, k * 2 + 1, none⟩ (.int .i64 ((N : Int) + 2)) := ⟨_, rfl⟩
              have O5 := task_put (N + 1, N + 2) hg G4 HK.out hc1 hc2 hc3 HT.out
              rw [show ((((N + 1, N + 2) : Nat × Nat).1 : Nat) : Int) = (N : Int) + 1 from rfl, show ((((N + 1, N + 2) : Nat × Nat).2 : Nat) : Int) = ((N : Int) + 2) from rfl, ← hV5] at O5
              have B5 : Below w.heap.size w V5 := by rw [hV5]; exact (B4.setCell hg _).setCell hg _
              obtain ⟨V6, hV6⟩ : ∃ V6, V6 = V5.alloc (Obj.cells #[.int .i64 (N : Int), .int .i64 0] 50) := ⟨_, rfl⟩
              have O6 := O5.alloc (Obj.cells #[.int .i64 (N : Int), .int .i64 0] 50)
              rw [← hV6] at O6
              have B6 : Below w.heap.size w V6 := by rw [hV6]; exact B5.alloc B5.size _
              have S6 : V5.heap.size = V3.heap.size := by rw [hV5, hV4]; simp
              have hnews : ∀ q u, (tkC (N, 0))[q]? = some u → V6.cell? ((⟨V3.heap.size, 0, none⟩ : Addr).add q) = some u := by
                intro q u hu
                rw [addr_add, Nat.zero_add, ← S6, hV6, (Blk.made V5 _ _).cell]
                simpa [tkC] using hu
              have HW6 : Hid (V6 = (((V3.setCell ⟨V2.heap.size, 4, none⟩ (.int .i64 ((N : Int) + 2))).setCell ⟨g, k * 2, none⟩ (.int .i64 ((N : Int) + 1))).setCell ⟨g, k * 2 + 1, none⟩ (.int .i64 ((N : Int) + 2))).alloc (Obj.cells #[.int .i64 (N : Int), .int .i64 0] 50)) := Lib.hid (by rw [hV6, hV5, hV4])
              have HNW := Lib.hid hnews
              have HO6 := Lib.hid O6
              have HB6 := Lib.hid B6
              clear hV6 hV5 hV4 hnews O6 O5 B4 B5 B6 G4 S6
              go_wp2_with (at_builtin; rw [← HW6.out]; refine wpList_append_own V6 rfl (.tmp 64) (.tmp 68) _ rfl w.heap.size 50 i0 _ 2 16 Try.underlying51 hi0 hz0 hz1 hz2 rfl (by omega) _ (k + 1) _ rfl HO6.out ⟨V3.heap.size, 0, none⟩ 1 1 (tkC (N, 0)) rfl rfl HNW.out (by simp [tkC, Value.oneCell']) (by unfold maxLen; omega) (by omega) HB6.out.size ?_; intro v4 w4 hown4 hg4 _)
              have B7 : Below w.heap.size w w4 := below_gb HB6.out hg4 HB6.out.size (fun i hi => (HO6.out.lt i hi).1)
              have O7 : w4.ownsRow w.heap.size 50 2 v4 ((N, 0) :: (N + 1, N + 2) :: r).length (tkV ((N, 0) :: (N + 1, N + 2) :: r).reverse) := by
                rw [List.reverse_cons, List.reverse_cons, tkV_snoc, List.length_cons, List.length_cons, HKR.out]
                exact hown4
              have HO7 := Lib.hid O7
              have HB7 := Lib.hid B7
              clear O7 B7 hown4 hg4
              go_wp2_with fail
              go_roundw
              case rel => exact ⟨i + 1, N + 3, _, _, _, by simp, by omega, by simp, HR2, by simp, HO7, HB7⟩
              case measure => simp [intOf]; omega
            · have heq : ∀ wx, (Op.equalIn 10000 37 (.agg #[.int .i64 1, .int .i64 (a : Int), .int .i64 B, .int .i64 C, .int .i64 D]) (.agg #[.int .i64 1, .int .i64 (a : Int), .int .i64 (N : Int), .int .i64 ((N : Int) + 1), .int .i64 ((N : Int) + 2)])).run Try.prog wx = .ok false wx := fun wx => by
                have := sdEq ⟨1, (a : Int), B, C, D⟩ ⟨1, (a : Int), (N : Int), ((N : Int) + 1), ((N : Int) + 2)⟩ wx
                rw [decide_eq_false hEq] at this
                exact this
              have HD := Lib.hid (run_dead hil HR.out (by rw [HX.out]; exact st_fork0_no hEq))
              have HBF : Hid (Below w.heap.size w (V3.setCell ⟨V2.heap.size, 4, none⟩ (.int .i64 ((N : Int) + 2)))) := Lib.hid (HB3.out.setCell HWV.out _)
              clear hEq
              go_wp2_with fail
              go_ret
              exact ⟨by rw [HD.out]; rfl, by first | exact HBF.out | exact below_drewN HBF.out _⟩
          · have j1 : ((j : Int) == 0) = false := by simp [hj]
            have j2 : ((j : Int) != 0) = true := by simp [hj]
            have j3 : decide ((j : Int) = 0) = false := by simp [hj]
            by_cases hEq : (⟨1, a, B, C, D⟩ : SplV) = ⟨1, a, N, (N : Int) + 1, (j : Int)⟩
            · have heq : ∀ wx, (Op.equalIn 10000 37 (.agg #[.int .i64 1, .int .i64 (a : Int), .int .i64 B, .int .i64 C, .int .i64 D]) (.agg #[.int .i64 1, .int .i64 (a : Int), .int .i64 (N : Int), .int .i64 ((N : Int) + 1), .int .i64 (j : Int)])).run Try.prog wx = .ok true wx := fun wx => by
                have := sdEq ⟨1, (a : Int), B, C, D⟩ ⟨1, (a : Int), (N : Int), ((N : Int) + 1), (j : Int)⟩ wx
                rw [decide_eq_true hEq] at this
                exact this
              have HR2 : Hid (spRun .zero (l.take (i + 1)) = some ⟨N + 2, (N, 0) :: (N + 1, j) :: r, forkE E a N false, forkH H a N false⟩) := Lib.hid (by rw [run_take hil HR.out, HX.out]; exact st_fork1 hj hEq)
              simp only [SplV.mk.injEq, true_and] at hEq
              obtain ⟨rfl, rfl, rfl⟩ := hEq
              obtain ⟨V4, hV4⟩ : ∃ V4, V4 = V3 := ⟨_, rfl⟩
              have G4 : Blk V4 g 50 cur := by rw [hV4]; exact HG3.out
              have B4 : Below w.heap.size w V4 := by rw [hV4]; exact HB3.out
              obtain ⟨V5, hV5⟩ : ∃ V5, V5 = (V4.setCell ⟨g, k * 2, none⟩ (.int .i64 ((N : Int) + 1))).setCell ⟨g, k * 2 + 1, none⟩ (.int .i64 (j : Int)) := ⟨_, rfl⟩
              have O5 := task_put (N + 1, j) hg G4 HK.out hc1 hc2 hc3 HT.out
              rw [show ((((N + 1, j) : Nat × Nat).1 : Nat) : Int) = (N : Int) + 1 from rfl, show ((((N + 1, j) : Nat × Nat).2 : Nat) : Int) = (j : Int) from rfl, ← hV5] at O5
              have B5 : Below w.heap.size w V5 := by rw [hV5]; exact (B4.setCell hg _).setCell hg _
              obtain ⟨V6, hV6⟩ : ∃ V6, V6 = V5.alloc (Obj.cells #[.int .i64 (N : Int), .int .i64 0] 50) := ⟨_, rfl⟩
              have O6 := O5.alloc (Obj.cells #[.int .i64 (N : Int), .int .i64 0] 50)
              rw [← hV6] at O6
              have B6 : Below w.heap.size w V6 := by rw [hV6]; exact B5.alloc B5.size _
              have S6 : V5.heap.size = V3.heap.size := by rw [hV5, hV4]; simp
              have hnews : ∀ q u, (tkC (N, 0))[q]? = some u → V6.cell? ((⟨V3.heap.size, 0, none⟩ : Addr).add q) = some u := by
                intro q u hu
                rw [addr_add, Nat.zero_add, ← S6, hV6, (Blk.made V5 _ _).cell]
                simpa [tkC] using hu
              have HW6 : Hid (V6 = ((V3.setCell ⟨g, k * 2, none⟩ (.int .i64 ((N : Int) + 1))).setCell ⟨g, k * 2 + 1, none⟩ (.int .i64 (j : Int))).alloc (Obj.cells #[.int .i64 (N : Int), .int .i64 0] 50)) := Lib.hid (by rw [hV6, hV5, hV4])
              have HNW := Lib.hid hnews
              have HO6 := Lib.hid O6
              have HB6 := Lib.hid B6
              clear hV6 hV5 hV4 hnews O6 O5 B4 B5 B6 G4 S6
              go_wp2_with (at_builtin; rw [← HW6.out]; refine wpList_append_own V6 rfl (.tmp 64) (.tmp 68) _ rfl w.heap.size 50 i0 _ 2 16 Try.underlying51 hi0 hz0 hz1 hz2 rfl (by omega) _ (k + 1) _ rfl HO6.out ⟨V3.heap.size, 0, none⟩ 1 1 (tkC (N, 0)) rfl rfl HNW.out (by simp [tkC, Value.oneCell']) (by unfold maxLen; omega) (by omega) HB6.out.size ?_; intro v4 w4 hown4 hg4 _)
              have B7 : Below w.heap.size w w4 := below_gb HB6.out hg4 HB6.out.size (fun i hi => (HO6.out.lt i hi).1)
              have O7 : w4.ownsRow w.heap.size 50 2 v4 ((N, 0) :: (N + 1, j) :: r).length (tkV ((N, 0) :: (N + 1, j) :: r).reverse) := by
                rw [List.reverse_cons, List.reverse_cons, tkV_snoc, List.length_cons, List.length_cons, HKR.out]
                exact hown4
              have HO7 := Lib.hid O7
              have HB7 := Lib.hid B7
              clear O7 B7 hown4 hg4
              go_wp2_with fail
              go_roundw
              case rel => exact ⟨i + 1, N + 2, _, _, _, by simp, by omega, by simp, HR2, by simp, HO7, HB7⟩
              case measure => simp [intOf]; omega
            · have heq : ∀ wx, (Op.equalIn 10000 37 (.agg #[.int .i64 1, .int .i64 (a : Int), .int .i64 B, .int .i64 C, .int .i64 D]) (.agg #[.int .i64 1, .int .i64 (a : Int), .int .i64 (N : Int), .int .i64 ((N : Int) + 1), .int .i64 (j : Int)])).run Try.prog wx = .ok false wx := fun wx => by
                have := sdEq ⟨1, (a : Int), B, C, D⟩ ⟨1, (a : Int), (N : Int), ((N : Int) + 1), (j : Int)⟩ wx
                rw [decide_eq_false hEq] at this
                exact this
              have HD := Lib.hid (run_dead hil HR.out (by rw [HX.out]; exact st_fork1_no hj hEq))
              have HBF : Hid (Below w.heap.size w V3) := Lib.hid HB3.out
              clear hEq
              go_wp2_with fail
              go_ret
              exact ⟨by rw [HD.out]; rfl, by first | exact HBF.out | exact below_drewN HBF.out _⟩
        have k1 : (kd == 1) = false := by simp [hk1]
        by_cases hk2 : kd = 2
        · subst hk2
          by_cases hr0 : r = []
          · have hk0 : k = 0 := by rw [← HKR.out, hr0]; rfl
            have d1 : decide ((k : Int) + 1 < 2) = true := by simp; omega
            have HD := Lib.hid (run_dead hil HR.out (by rw [HX.out]; exact by rw [hr0]; exact st_end0))
            clear hr0 hk0
            go_quiet (fail)
            go_wp2_with fail
            go_quiet (fail)
            go_wp2_with fail
            go_ret
            exact ⟨by rw [HD.out]; rfl, below_drewN (below_drewN HB1.out _) _⟩
          obtain ⟨⟨a1, j1⟩, r1, rfl⟩ : ∃ t r1, r = t :: r1 := by cases r with | nil => exact absurd rfl hr0 | cons t r => exact ⟨t, r, rfl⟩
          clear hr0
          obtain ⟨k', rfl⟩ : ∃ k', k = k' + 1 := ⟨r1.length, by rw [← HKR.out]; rfl⟩
          have hK1 : r1.reverse.length = k' := by have := HKR.out; rw [List.length_reverse]; simpa using this
          have tn : V1.cell? ⟨g, k' * 2 + 1, none⟩ = some (.int .i64 (j1 : Int)) := task_next (ts := r1.reverse) (t := (a1, j1)) (t2 := (a, j)) HG1.out hK1 (by have := HT.out; rwa [List.reverse_cons] at this)
          have HK1 := Lib.hid hK1
          clear hK1
          have d1 : decide (((k' + 1 : Nat) : Int) + 1 < 2) = false := by simp; omega
          have d2 : decide ((k' : Int) + 1 + 1 < 2) = false := by simp; omega
          have wk1 : IntKind.i64.wrap (k' : Int) = k' := by rw [IntKind.wrap_i64]; omega
          by_cases hj : j ≠ 0
          · have q1 : ((j : Int) == 0) = false := by simp [hj]
            have q2 : ((j : Int) != 0) = true := by simp [hj]
            have q3 : decide ((j : Int) = 0) = false := by simp [hj]
            have HD := Lib.hid (run_dead hil HR.out (by rw [HX.out]; exact st_end_no (.inl hj)))
            clear hj
            go_quiet (fail)
            go_wp2_with fail
            go_quiet (fail)
            go_wp2_with fail
            go_ret
            exact ⟨by rw [HD.out]; rfl, below_drewN (below_drewN HB1.out _) _⟩
          · replace hj : j = 0 := by omega
            have q1 : ((j : Int) == 0) = true := by simp [hj]
            have q2 : ((j : Int) != 0) = false := by simp [hj]
            have q3 : decide ((j : Int) = 0) = true := by simp [hj]
            by_cases hEq : (⟨2, a, B, C, D⟩ : SplV) = ⟨2, a, 0, 0, j1⟩
            · have heq : ∀ wx, (Op.equalIn 10000 37 (.agg #[.int .i64 2, .int .i64 (a : Int), .int .i64 B, .int .i64 C, .int .i64 D]) (.agg #[.int .i64 2, .int .i64 (a : Int), .int .i64 0, .int .i64 0, .int .i64 (j1 : Int)])).run Try.prog wx = .ok true wx := fun wx => by
                have := sdEq ⟨2, (a : Int), B, C, D⟩ ⟨2, (a : Int), 0, 0, (j1 : Int)⟩ wx
                rw [decide_eq_true hEq] at this
                exact this
              have HR2 : Hid (spRun .zero (l.take (i + 1)) = some ⟨N, (a1, j1) :: r1, E, H⟩) := Lib.hid (by rw [run_take hil HR.out, HX.out]; subst hj; exact st_end hEq)
              simp only [SplV.mk.injEq, true_and] at hEq
              obtain ⟨rfl, rfl, rfl⟩ := hEq
              have HP := Lib.hid fun q => task_pop (w := V1.drewN q) hg (HG1.out.drawn q) HK.out hc1 hc2 hc3 HT.out
              clear hj
              go_quiet (fail)
              go_wp2_with fail
              revert nq
              intro nq0
              go_quiet (fail)
              go_wp2_with fail
              have O7 : World.ownsRow (V1.drewN (nq0 + nq)) w.heap.size 50 2 (.slice (some ⟨g, 0, none⟩) (k' + 1) cap) ((a1, j1) :: r1).length (tkV ((a1, j1) :: r1).reverse) := by
                rw [HKR.out]
                exact HP.out (nq0 + nq)
              have HO7 := Lib.hid O7
              have HB7 : Hid (Below w.heap.size w (V1.drewN (nq0 + nq))) := Lib.hid (below_drewN HB1.out _)
              clear O7 HP
              go_roundw
              case rel => exact ⟨i + 1, N, _, _, _, by simp, by omega, by simp, HR2, by simp, HO7, HB7⟩
              case measure => simp [intOf]; omega
            · have heq : ∀ wx, (Op.equalIn 10000 37 (.agg #[.int .i64 2, .int .i64 (a : Int), .int .i64 B, .int .i64 C, .int .i64 D]) (.agg #[.int .i64 2, .int .i64 (a : Int), .int .i64 0, .int .i64 0, .int .i64 (j1 : Int)])).run Try.prog wx = .ok false wx := fun wx => by
                have := sdEq ⟨2, (a : Int), B, C, D⟩ ⟨2, (a : Int), 0, 0, (j1 : Int)⟩ wx
                rw [decide_eq_false hEq] at this
                exact this
              have HD := Lib.hid (run_dead hil HR.out (by rw [HX.out]; exact st_end_no (.inr hEq)))
              clear hj hEq
              go_quiet (fail)
              go_wp2_with fail
              go_quiet (fail)
              go_wp2_with fail
              go_ret
              exact ⟨by rw [HD.out]; rfl, below_drewN (below_drewN HB1.out _) _⟩
        have k2 : (kd == 2) = false := by simp [hk2]
        by_cases hk3 : kd = 3
        · subst hk3
          have tf0 := HG1.out.free (k * 2)
          have tf1 := HG1.out.free (k * 2 + 1)
          by_cases hj : j = 0
          · have j1 : ((j : Int) == 0) = true := by simp [hj]
            have j2 : ((j : Int) != 0) = false := by simp [hj]
            have j3 : decide ((j : Int) = 0) = true := by simp [hj]
            have HD := Lib.hid (run_dead hil HR.out (by rw [HX.out]; exact st_join_no (.inl hj)))
            clear hj
            go_quiet (fail)
            go_wp2_with fail
            go_quiet (fail)
            go_wp2_with fail
            go_ret
            exact ⟨by rw [HD.out]; rfl, below_drewN (below_drewN HB1.out _) _⟩
          · have j1 : ((j : Int) == 0) = false := by simp [hj]
            have j2 : ((j : Int) != 0) = true := by simp [hj]
            have j3 : decide ((j : Int) = 0) = false := by simp [hj]
            by_cases hEq : (⟨3, a, B, C, D⟩ : SplV) = ⟨3, a, 0, 0, j⟩
            · have heq : ∀ wx, (Op.equalIn 10000 37 (.agg #[.int .i64 3, .int .i64 (a : Int), .int .i64 B, .int .i64 C, .int .i64 D]) (.agg #[.int .i64 3, .int .i64 (a : Int), .int .i64 0, .int .i64 0, .int .i64 (j : Int)])).run Try.prog wx = .ok true wx := fun wx => by
                have := sdEq ⟨3, (a : Int), B, C, D⟩ ⟨3, (a : Int), 0, 0, (j : Int)⟩ wx
                rw [decide_eq_true hEq] at this
                exact this
              have HR2 : Hid (spRun .zero (l.take (i + 1)) = some ⟨N, (j, 0) :: r, E, H⟩) := Lib.hid (by rw [run_take hil HR.out, HX.out]; exact st_join hj hEq)
              simp only [SplV.mk.injEq, true_and] at hEq
              obtain ⟨rfl, rfl, rfl⟩ := hEq
              have HP := Lib.hid fun q => task_put (w := V1.drewN q) (j, 0) hg (HG1.out.drawn q) HK.out hc1 hc2 hc3 HT.out
              clear hj
              go_quiet (fail)
              go_wp2_with fail
              revert nq
              intro nq0
              go_quiet (fail)
              go_wp2_with fail
              have O7 : World.ownsRow (((V1.drewN (nq0 + nq)).setCell ⟨g, k * 2, none⟩ (.int .i64 (j : Int))).setCell ⟨g, k * 2 + 1, none⟩ (.int .i64 0)) w.heap.size 50 2 (.slice (some ⟨g, 0, none⟩) (k + 1) cap) ((j, 0) :: r).length (tkV ((j, 0) :: r).reverse) := by
                rw [List.reverse_cons, List.length_cons, HKR.out]
                exact HP.out (nq0 + nq)
              have HO7 := Lib.hid O7
              have HB7 : Hid (Below w.heap.size w (((V1.drewN (nq0 + nq)).setCell ⟨g, k * 2, none⟩ (.int .i64 (j : Int))).setCell ⟨g, k * 2 + 1, none⟩ (.int .i64 0))) := Lib.hid (((below_drewN HB1.out _).setCell hg _).setCell hg _)
              clear O7 HP
              go_roundw
              case rel => exact ⟨i + 1, N, _, _, _, by simp, by omega, by simp, HR2, by simp, HO7, HB7⟩
              case measure => simp [intOf]; omega
            · have heq : ∀ wx, (Op.equalIn 10000 37 (.agg #[.int .i64 3, .int .i64 (a : Int), .int .i64 B, .int .i64 C, .int .i64 D]) (.agg #[.int .i64 3, .int .i64 (a : Int), .int .i64 0, .int .i64 0, .int .i64 (j : Int)])).run Try.prog wx = .ok false wx := fun wx => by
                have := sdEq ⟨3, (a : Int), B, C, D⟩ ⟨3, (a : Int), 0, 0, (j : Int)⟩ wx
                rw [decide_eq_false hEq] at this
                exact this
              have HD := Lib.hid (run_dead hil HR.out (by rw [HX.out]; exact st_join_no (.inr hEq)))
              clear hj hEq
              go_quiet (fail)
              go_wp2_with fail
              go_quiet (fail)
              go_wp2_with fail
              go_ret
              exact ⟨by rw [HD.out]; rfl, below_drewN (below_drewN HB1.out _) _⟩
        have k3 : (kd == 3) = false := by simp [hk3]
        have HD := Lib.hid (run_dead hil HR.out (by rw [HX.out]; exact st_else hk1 hk2 hk3))
        clear hk1 hk2 hk3
        go_quiet (fail)
        go_wp2_with fail
        go_ret
        exact ⟨by rw [HD.out]; rfl, below_drewN HB1.out _⟩

      · have m1 : (A != (a : Int)) = true := by simp [hA]
        have m2 : (A == (a : Int)) = false := by simp [hA]
        have HD := Lib.hid (run_dead hil HR.out (by rw [HX.out]; exact st_ne hA))
        clear hA
        go_quiet (fail)
        go_wp2_with fail
        go_ret
        exact ⟨by rw [HD.out]; rfl, below_drewN HB1.out _⟩
    · obtain rfl : i = n := by omega
      have hfin : spRun .zero l = some ⟨N, st, E, H⟩ := by
        have := HR.out
        rwa [List.take_of_length_le (by rw [HN.out]; exact Nat.le_refl _)] at this
      have HF := Lib.hid hfin
      clear hfin
      go_wp2_with fail
      go_ret
      exact ⟨by rw [HF.out]; rfl, HB.out⟩
end Go.Proofs.Ytjpimaiogdckpaa
