/-
  OM: the law OmKeeps.
-/
import Derived.Test.YtpikiehipeecoaaOmW
import Derived.Test.YtpikiehipeecoaaAfter
namespace Go.Proofs.Ytpikiehipeecoaa
open Go.ChangeShapes Go.WideShapes Go.ChangeAt Go.RowKit Go.Sort

set_option maxRecDepth 100000 in
set_option maxHeartbeats 8000000 in
theorem walkOmKeeps (p : Option Addr) (n c : Nat) (kz : List Int) (x : Int) (w : World) (wk : IsRow .i64 w p n c kz) (hx : 0 ≤ x ∧ x ≤ 255) :
    Calls Try.prog 5 #[.agg #[.slice p n c], .int .u8 x] w fun e w' => e = .returned (.bool true) ∧ Below w.heap.size w w' := by
  obtain ⟨N0, n0⟩ := Nums.of_row wk
  generalize kz.take n = l at N0 n0
  clear wk kz
  obtain ⟨V0, hV⟩ : ∃ V, V = (w.alloc (Obj.cells #[.slice p n c] 26)) := ⟨_, rfl⟩
  have hB : Below w.heap.size w V0 := by rw [hV]; exact below_alloc1 w _
  have KO : Blk V0 (w.heap.size) 26 #[.slice p n c] := by rw [hV]; exact Blk.made w _ _
  have HV := Lib.hid hV
  clear hV
  replace N0 := N0.later hB
  have HL := Lib.hid n0
  clear n0
  go_enter Try.func5, Try.ntmps5
  have HKO := Lib.hid KO
  have HN0 := Lib.hid N0
  have HhB := Lib.hid hB
  clear KO N0 hB
  go_wp2_with fail
  have KO := HKO.out
  have N0 := HN0.out
  have hB := HhB.out
  clear HKO HN0 HhB
  rw [← HV.out]
  clear HV
  refine (shown_any _).mono ?_
  rintro e w1 ⟨rfl, hb⟩
  replace KO := KO.later hb
  replace N0 := N0.later hb
  replace hB := hB.trans (hb.mono hB.size)
  clear hb
  by_cases h60 : 60 < n
  · have d1 : decide (60 < (n : Int)) = true := by simp; omega
    have o0 : World.cell? _ ⟨w.heap.size, 0, none⟩ = some (.slice p n c) := KO.cell 0
    have ol := KO.lt
    have HKO := Lib.hid KO
    have HN0 := Lib.hid N0
    have HhB := Lib.hid hB
    clear KO N0 hB
    go_wp2_with fail
    clear o0 ol
    have KO := HKO.out
    have N0 := HN0.out
    have hB := HhB.out
    clear HKO HN0 HhB
    go_ret
    exact ⟨rfl, hB⟩
  have d1 : decide (60 < (n : Int)) = false := by simp; omega
  by_cases hrt : Rt l
  · have hn0 : 0 < n := by have := hrt.1; have := HL.out; omega
    obtain ⟨k, hk⟩ : ∃ a : Nat, Int.tmod x n = (a : Int) := ⟨(Int.tmod x n).toNat, by rw [Int.tmod_eq_emod_of_nonneg hx.1]; have := Int.emod_nonneg x (show (n : Int) ≠ 0 by omega); omega⟩
    have hkn : k < n := by rw [Int.tmod_eq_emod_of_nonneg hx.1] at hk; have := Int.emod_lt_of_pos x (show (0 : Int) < n by omega); omega
    have wk1 : IntKind.i64.wrap (k : Int) = k := by rw [IntKind.wrap_i64]; omega
    have nz : (n : Int) ≠ 0 := by omega
    have nz2 : ((n : Int) == 0) = false := by simp; omega
    have o0 : World.cell? _ ⟨w.heap.size, 0, none⟩ = some (.slice p n c) := KO.cell 0
    have ol := KO.lt
    have HKO := Lib.hid KO
    have HN0 := Lib.hid N0
    have HhB := Lib.hid hB
    clear KO N0 hB
    go_wp2_with fail
    clear o0 ol
    have KO := HKO.out
    have N0 := HN0.out
    have hB := HhB.out
    clear HKO HN0 HhB
    refine (refright_at l n HL.out true (decide_eq_true hrt) _ _ _ N0).mono ?_
    rintro e w2 ⟨rfl, hb⟩
    replace KO := KO.later hb
    replace N0 := N0.later hb
    replace hB := hB.trans (hb.mono hB.size)
    clear hb
    have o0 : World.cell? _ ⟨w.heap.size, 0, none⟩ = some (.slice p n c) := KO.cell 0
    have ol := KO.lt
    have HKO := Lib.hid KO
    have HN0 := Lib.hid N0
    have HhB := Lib.hid hB
    clear KO N0 hB
    go_wp2_with fail
    clear o0 ol
    have KO := HKO.out
    have N0 := HN0.out
    have hB := HhB.out
    clear HKO HN0 HhB
    obtain ⟨m, hm⟩ : ∃ m, n + 1 = m := ⟨_, rfl⟩
    have e1 : (n : Int) + 1 = (m : Int) := by omega
    have e2 : IntKind.i64.wrap (m : Int) = m := by rw [IntKind.wrap_i64]; omega
    obtain ⟨L, hLd⟩ : ∃ L, behL l k = L := ⟨_, rfl⟩
    have HBh : Hid (Behind l k L) := Lib.hid (by rw [← hLd]; exact behind_ok hrt k (by rw [HL.out]; exact hkn))
    have HRL : Hid (Rt L) := Lib.hid (HBh.out.right (by rw [HL.out]; omega))
    have HLm : Hid (L.length = m) := Lib.hid (by rw [HBh.out.len, HL.out]; exact hm)
    refine (behind_at l L n m k k n HL.out hrt (by omega) hkn hm rfl rfl hLd _ _ _ N0).mono ?_
    rintro e w3 ⟨q2, c2, rfl, N1, hb⟩
    replace KO := KO.later hb
    replace N0 := N0.later hb
    replace hB := hB.trans (hb.mono hB.size)
    clear hb
    have hmn : n < m := by omega
    clear hm hLd
    obtain ⟨V3, hV⟩ : ∃ V, V = w3.alloc (Obj.cells #[.slice q2 m c2] 26) := ⟨_, rfl⟩
    have KA : Blk V3 w3.heap.size 26 #[.slice q2 m c2] := by rw [hV]; exact Blk.made _ _ _
    have hbv : Below w3.heap.size w3 V3 := by rw [hV]; exact below_alloc1 _ _
    replace KO := KO.later hbv
    replace N0 := N0.later hbv
    replace N1 := N1.later hbv
    replace hB := hB.trans (hbv.mono hB.size)
    clear hbv
    have HV := Lib.hid hV
    clear hV
    have a0 : World.cell? _ ⟨w3.heap.size, 0, none⟩ = some (.slice q2 m c2) := KA.cell 0
    have al := KA.lt
    rw [HV.out] at a0 al
    have o0 : World.cell? _ ⟨w.heap.size, 0, none⟩ = some (.slice p n c) := KO.cell 0
    have ol := KO.lt
    have HKO := Lib.hid KO
    have HN0 := Lib.hid N0
    have HN1 := Lib.hid N1
    have HKA := Lib.hid KA
    have HhB := Lib.hid hB
    clear KO N0 N1 KA hB
    go_wp2_with fail
    clear o0 ol a0 al
    have KO := HKO.out
    have N0 := HN0.out
    have N1 := HN1.out
    have KA := HKA.out
    have hB := HhB.out
    clear HKO HN0 HN1 HKA HhB
    rw [← HV.out]
    clear HV
    refine (right_at L m HLm.out (by omega) true (decide_eq_true HRL.out) _ _ _ N1).mono ?_
    rintro e w4 ⟨rfl, hb⟩
    replace KO := KO.later hb
    replace N0 := N0.later hb
    replace N1 := N1.later hb
    replace KA := KA.later hb
    replace hB := hB.trans (hb.mono hB.size)
    clear hb
    have o0 : World.cell? _ ⟨w.heap.size, 0, none⟩ = some (.slice p n c) := KO.cell 0
    have ol := KO.lt
    have a0 : World.cell? _ ⟨w3.heap.size, 0, none⟩ = some (.slice q2 m c2) := KA.cell 0
    have al := KA.lt
    have HKO := Lib.hid KO
    have HN0 := Lib.hid N0
    have HN1 := Lib.hid N1
    have HKA := Lib.hid KA
    have HhB := Lib.hid hB
    clear KO N0 N1 KA hB
    go_wp2_with fail
    clear o0 ol a0 al
    have KO := HKO.out
    have N0 := HN0.out
    have N1 := HN1.out
    have KA := HKA.out
    have hB := HhB.out
    clear HKO HN0 HN1 HKA HhB
    have HKO := Lib.hid KO
    have HN0 := Lib.hid N0
    have HN1 := Lib.hid N1
    have HKA := Lib.hid KA
    have HhB := Lib.hid hB
    clear KO N0 N1 KA hB
    go_loopw [11] (fun vi wr => ∃ i : Nat, vi = .int .i64 i ∧ i ≤ n ∧ ∃ W', W' = wr ∧ Hid (Blk W' (w.heap.size) 26 #[.slice p n c]) ∧ Hid (Nums W' p c l) ∧ Hid (Nums W' q2 c2 L) ∧ Hid (Blk W' (w3.heap.size) 26 #[.slice q2 m c2]) ∧ Hid (Below w.heap.size w W')) (fun vi _ => n - (intOf vi).toNat)
    case atStart => exact ⟨0, rfl, by omega, _, rfl, HKO, HN0, HN1, HKA, HhB⟩
    case round =>
      clear HKO HN0 HN1 HKA HhB
      obtain ⟨i, rfl, hi, wr, rfl, HKO, HN0, HN1, HKA, HhB⟩ := hrel
      have KO := HKO.out
      have N0 := HN0.out
      have N1 := HN1.out
      have KA := HKA.out
      have hB := HhB.out
      clear HKO HN0 HN1 HKA HhB
      by_cases hlt : i < n
      · have r1 : decide ((i : Int) < n) = true := by simp; omega
        have HKO := Lib.hid KO
        have HN0 := Lib.hid N0
        have HN1 := Lib.hid N1
        have HKA := Lib.hid KA
        have HhB := Lib.hid hB
        clear KO N0 N1 KA hB
        go_wp2_with fail
        clear r1
        have KO := HKO.out
        have N0 := HN0.out
        have N1 := HN1.out
        have KA := HKA.out
        have hB := HhB.out
        clear HKO HN0 HN1 HKA HhB
        have HKO := Lib.hid KO
        have HN0 := Lib.hid N0
        have HN1 := Lib.hid N1
        have HKA := Lib.hid KA
        have HhB := Lib.hid hB
        clear KO N0 N1 KA hB
        go_loopw [12] (fun vi wr => ∃ j : Nat, vi = .int .i64 j ∧ j ≤ n ∧ ∃ W', W' = wr ∧ Hid (Blk W' (w.heap.size) 26 #[.slice p n c]) ∧ Hid (Nums W' p c l) ∧ Hid (Nums W' q2 c2 L) ∧ Hid (Blk W' (w3.heap.size) 26 #[.slice q2 m c2]) ∧ Hid (Below w.heap.size w W')) (fun vi _ => n - (intOf vi).toNat)
        case atStart => exact ⟨0, rfl, by omega, _, rfl, HKO, HN0, HN1, HKA, HhB⟩
        case round =>
          clear HKO HN0 HN1 HKA HhB
          obtain ⟨j, rfl, hj, wq, rfl, HKO, HN0, HN1, HKA, HhB⟩ := hrel
          have KO := HKO.out
          have N0 := HN0.out
          have N1 := HN1.out
          have KA := HKA.out
          have hB := HhB.out
          clear HKO HN0 HN1 HKA HhB
          by_cases hjt : j < n
          · have s1 : decide ((j : Int) < n) = true := by simp; omega
            obtain ⟨R, hR⟩ : ∃ R, decide (l.getD i 0 < l.getD j 0) = R := ⟨_, rfl⟩
            have hR2 : decide (L.getD i 0 < L.getD j 0) = R := by rw [← hR, decide_eq_decide]; exact HBh.out.old i j (by rw [HL.out]; omega) (by rw [HL.out]; omega)
            have hcur : Below wq.heap.size wq wq := Below.refl _ _
            have u0 := fun (y : After wq) => (y.cell KA.lt).trans (KA.cell 0)
            have u0 : ∀ y : After wq, World.cell? y.w ⟨w3.heap.size, 0, none⟩ = some (.slice q2 m c2) := u0
            have v0 := fun (y : After wq) => (y.cell KO.lt).trans (KO.cell 0)
            have v0 : ∀ y : After wq, World.cell? y.w ⟨w.heap.size, 0, none⟩ = some (.slice p n c) := v0
            have HQ0 := Lib.hid fun (y : After wq) => before_at L m HLm.out HRL.out _ _ i j i j R rfl rfl (by omega) (by omega) hR2 y.w (N1.later y.bel)
            have HQ1 := Lib.hid fun (y : After wq) => before_at l n HL.out hrt _ _ i j i j R rfl rfl (by omega) (by omega) hR y.w (N0.later y.bel)
            clear hcur
            have HKO := Lib.hid KO
            have HN0 := Lib.hid N0
            have HN1 := Lib.hid N1
            have HKA := Lib.hid KA
            have HhB := Lib.hid hB
            clear KO N0 N1 KA hB
            go_wp2_with fail
            refine wp_region_after (by kernel_rfl) (by kernel_rfl) ?_
            repeat (go_big_quiet_step (first | (go_at_call 14; with_reducible exact calls_after (HQ0.out _)) | (go_at_call 14; with_reducible exact calls_after (HQ1.out _))))
            refine wpQuiet_nil ?_
            rintro _ ⟨y, rfl⟩
            have KO := HKO.out
            have N0 := HN0.out
            have N1 := HN1.out
            have KA := HKA.out
            have hB := HhB.out
            clear HKO HN0 HN1 HKA HhB
            obtain ⟨w5, hX⟩ : ∃ X, X = y.w := ⟨_, rfl⟩
            have hb := y.bel
            rw [← hX] at hb
            rw [← hX]
            clear hX u0 v0 HQ0 HQ1
            clear y
            replace KO := KO.later hb
            replace N0 := N0.later hb
            replace N1 := N1.later hb
            replace KA := KA.later hb
            replace hB := hB.trans (hb.mono hB.size)
            clear hb
            clear hR hR2 s1
            have HKO := Lib.hid KO
            have HN0 := Lib.hid N0
            have HN1 := Lib.hid N1
            have HKA := Lib.hid KA
            have HhB := Lib.hid hB
            clear KO N0 N1 KA hB
            go_wp2_with fail
            have KO := HKO.out
            have N0 := HN0.out
            have N1 := HN1.out
            have KA := HKA.out
            have hB := HhB.out
            clear HKO HN0 HN1 HKA HhB
            have HKO := Lib.hid KO
            have HN0 := Lib.hid N0
            have HN1 := Lib.hid N1
            have HKA := Lib.hid KA
            have HhB := Lib.hid hB
            clear KO N0 N1 KA hB
            go_roundw
            case rel => exact ⟨j + 1, by simp, by omega, _, rfl, HKO, HN0, HN1, HKA, HhB⟩
            case measure => simp [intOf]; omega
          · have s1 : decide ((j : Int) < n) = false := by simp; omega
            have lne : i ≠ k → l.getD i 0 ≠ l.getD k 0 := fun h e => h (nodup_getD hrt.2.2.2 (by rw [HL.out]; exact hlt) (by rw [HL.out]; exact hkn) e)
            have hlo := HBh.out.lo i (by rw [HL.out]; exact hlt)
            have hup := HBh.out.up i (by rw [HL.out]; exact hlt)
            rw [HL.out] at hlo hup
            by_cases hik : i = k
            · have hp : decide (L.getD i 0 < L.getD n 0) = true := decide_eq_true (hlo.2 (by rw [hik]; exact Int.le_refl _))
              have hq : decide (L.getD n 0 < L.getD i 0) = false := decide_eq_false (fun h => by have := hup.1 h; rw [hik] at this; omega)
              have hs : decide (l.getD k 0 < l.getD i 0) = false := decide_eq_false (by rw [hik]; omega)
              have m1 : ((i : Int) == (k : Int)) = true := by simp; omega
              have m2 : decide ((i : Int) = (k : Int)) = true := by simp; omega
              have HIK := Lib.hid hik
              clear hik lne hlo hup
              have hcur : Below wq.heap.size wq wq := Below.refl _ _
              have u0 := fun (y : After wq) => (y.cell KA.lt).trans (KA.cell 0)
              have u0 : ∀ y : After wq, World.cell? y.w ⟨w3.heap.size, 0, none⟩ = some (.slice q2 m c2) := u0
              have v0 := fun (y : After wq) => (y.cell KO.lt).trans (KO.cell 0)
              have v0 : ∀ y : After wq, World.cell? y.w ⟨w.heap.size, 0, none⟩ = some (.slice p n c) := v0
              have HQ0 := Lib.hid fun (y : After wq) => before_at L m HLm.out HRL.out _ _ i n i n true rfl rfl (by omega) (by omega) hp y.w (N1.later y.bel)
              have HQ1 := Lib.hid fun (y : After wq) => before_at L m HLm.out HRL.out _ _ n i n i false rfl rfl (by omega) (by omega) hq y.w (N1.later y.bel)
              have HQ2 := Lib.hid fun (y : After wq) => before_at l n HL.out hrt _ _ k i k i false rfl rfl (by omega) (by omega) hs y.w (N0.later y.bel)
              clear hcur
              have HKO := Lib.hid KO
              have HN0 := Lib.hid N0
              have HN1 := Lib.hid N1
              have HKA := Lib.hid KA
              have HhB := Lib.hid hB
              clear KO N0 N1 KA hB
              go_wp2_with fail
              refine wp_region_after (by kernel_rfl) (by kernel_rfl) ?_
              repeat (go_big_quiet_step (first | (go_at_call 14; with_reducible exact calls_after (HQ0.out _)) | (go_at_call 14; with_reducible exact calls_after (HQ1.out _)) | (go_at_call 14; with_reducible exact calls_after (HQ2.out _))))
              refine wpQuiet_nil ?_
              rintro _ ⟨y, rfl⟩
              have KO := HKO.out
              have N0 := HN0.out
              have N1 := HN1.out
              have KA := HKA.out
              have hB := HhB.out
              clear HKO HN0 HN1 HKA HhB
              obtain ⟨w5, hX⟩ : ∃ X, X = y.w := ⟨_, rfl⟩
              have hb := y.bel
              rw [← hX] at hb
              rw [← hX]
              clear hX u0 v0 HQ0 HQ1 HQ2
              clear y
              replace KO := KO.later hb
              replace N0 := N0.later hb
              replace N1 := N1.later hb
              replace KA := KA.later hb
              replace hB := hB.trans (hb.mono hB.size)
              clear hb
              clear hp hq hs s1
              have HKO := Lib.hid KO
              have HN0 := Lib.hid N0
              have HN1 := Lib.hid N1
              have HKA := Lib.hid KA
              have HhB := Lib.hid hB
              clear KO N0 N1 KA hB
              go_wp2_with fail
              have KO := HKO.out
              have N0 := HN0.out
              have N1 := HN1.out
              have KA := HKA.out
              have hB := HhB.out
              clear HKO HN0 HN1 HKA HhB
              have HKO := Lib.hid KO
              have HN0 := Lib.hid N0
              have HN1 := Lib.hid N1
              have HKA := Lib.hid KA
              have HhB := Lib.hid hB
              clear KO N0 N1 KA hB
              go_roundw
              case rel => exact ⟨i + 1, by simp, by omega, _, rfl, HKO, HN0, HN1, HKA, HhB⟩
              case measure => simp [intOf]; omega
            · have hne := lne hik
              obtain ⟨P, hp0⟩ : ∃ P, decide (l.getD i 0 < l.getD k 0) = P := ⟨_, rfl⟩
              obtain ⟨S, hs⟩ : ∃ P, decide (l.getD k 0 < l.getD i 0) = P := ⟨_, rfl⟩
              have hp : decide (L.getD i 0 < L.getD n 0) = P := by rw [← hp0, decide_eq_decide]; rw [hlo]; omega
              have hq : decide (L.getD n 0 < L.getD i 0) = S := by rw [← hs, decide_eq_decide]; exact hup
              have m1 : ((i : Int) == (k : Int)) = false := by simp; omega
              have m2 : decide ((i : Int) = (k : Int)) = false := by simp; omega
              have HIK := Lib.hid hik
              clear hik lne hlo hup hne
              have hcur : Below wq.heap.size wq wq := Below.refl _ _
              have u0 := fun (y : After wq) => (y.cell KA.lt).trans (KA.cell 0)
              have u0 : ∀ y : After wq, World.cell? y.w ⟨w3.heap.size, 0, none⟩ = some (.slice q2 m c2) := u0
              have v0 := fun (y : After wq) => (y.cell KO.lt).trans (KO.cell 0)
              have v0 : ∀ y : After wq, World.cell? y.w ⟨w.heap.size, 0, none⟩ = some (.slice p n c) := v0
              have HQ0 := Lib.hid fun (y : After wq) => before_at L m HLm.out HRL.out _ _ i n i n P rfl rfl (by omega) (by omega) hp y.w (N1.later y.bel)
              have HQ1 := Lib.hid fun (y : After wq) => before_at l n HL.out hrt _ _ i k i k P rfl rfl (by omega) (by omega) hp0 y.w (N0.later y.bel)
              have HQ2 := Lib.hid fun (y : After wq) => before_at L m HLm.out HRL.out _ _ n i n i S rfl rfl (by omega) (by omega) hq y.w (N1.later y.bel)
              have HQ3 := Lib.hid fun (y : After wq) => before_at l n HL.out hrt _ _ k i k i S rfl rfl (by omega) (by omega) hs y.w (N0.later y.bel)
              clear hcur
              have HKO := Lib.hid KO
              have HN0 := Lib.hid N0
              have HN1 := Lib.hid N1
              have HKA := Lib.hid KA
              have HhB := Lib.hid hB
              clear KO N0 N1 KA hB
              go_wp2_with fail
              refine wp_region_after (by kernel_rfl) (by kernel_rfl) ?_
              repeat (go_big_quiet_step (first | (go_at_call 14; with_reducible exact calls_after (HQ0.out _)) | (go_at_call 14; with_reducible exact calls_after (HQ1.out _)) | (go_at_call 14; with_reducible exact calls_after (HQ2.out _)) | (go_at_call 14; with_reducible exact calls_after (HQ3.out _))))
              refine wpQuiet_nil ?_
              rintro _ ⟨y, rfl⟩
              have KO := HKO.out
              have N0 := HN0.out
              have N1 := HN1.out
              have KA := HKA.out
              have hB := HhB.out
              clear HKO HN0 HN1 HKA HhB
              obtain ⟨w5, hX⟩ : ∃ X, X = y.w := ⟨_, rfl⟩
              have hb := y.bel
              rw [← hX] at hb
              rw [← hX]
              clear hX u0 v0 HQ0 HQ1 HQ2 HQ3
              clear y
              replace KO := KO.later hb
              replace N0 := N0.later hb
              replace N1 := N1.later hb
              replace KA := KA.later hb
              replace hB := hB.trans (hb.mono hB.size)
              clear hb
              clear hp hq hs s1 hp0
              have HKO := Lib.hid KO
              have HN0 := Lib.hid N0
              have HN1 := Lib.hid N1
              have HKA := Lib.hid KA
              have HhB := Lib.hid hB
              clear KO N0 N1 KA hB
              go_wp2_with fail
              have KO := HKO.out
              have N0 := HN0.out
              have N1 := HN1.out
              have KA := HKA.out
              have hB := HhB.out
              clear HKO HN0 HN1 HKA HhB
              have HKO := Lib.hid KO
              have HN0 := Lib.hid N0
              have HN1 := Lib.hid N1
              have HKA := Lib.hid KA
              have HhB := Lib.hid hB
              clear KO N0 N1 KA hB
              go_roundw
              case rel => exact ⟨i + 1, by simp, by omega, _, rfl, HKO, HN0, HN1, HKA, HhB⟩
              case measure => simp [intOf]; omega
      · have r1 : decide ((i : Int) < n) = false := by simp; omega
        have HKO := Lib.hid KO
        have HN0 := Lib.hid N0
        have HN1 := Lib.hid N1
        have HKA := Lib.hid KA
        have HhB := Lib.hid hB
        clear KO N0 N1 KA hB
        go_wp2_with fail
        clear r1
        have KO := HKO.out
        have N0 := HN0.out
        have N1 := HN1.out
        have KA := HKA.out
        have hB := HhB.out
        clear HKO HN0 HN1 HKA HhB
        go_ret
        exact ⟨rfl, hB⟩
  · have o0 : World.cell? _ ⟨w.heap.size, 0, none⟩ = some (.slice p n c) := KO.cell 0
    have ol := KO.lt
    have HKO := Lib.hid KO
    have HN0 := Lib.hid N0
    have HhB := Lib.hid hB
    clear KO N0 hB
    go_wp2_with fail
    clear o0 ol
    have KO := HKO.out
    have N0 := HN0.out
    have hB := HhB.out
    clear HKO HN0 HhB
    refine (refright_at l n HL.out false (decide_eq_false hrt) _ _ _ N0).mono ?_
    rintro e w2 ⟨rfl, hb⟩
    replace KO := KO.later hb
    replace N0 := N0.later hb
    replace hB := hB.trans (hb.mono hB.size)
    clear hb
    have o0 : World.cell? _ ⟨w.heap.size, 0, none⟩ = some (.slice p n c) := KO.cell 0
    have ol := KO.lt
    have HKO := Lib.hid KO
    have HN0 := Lib.hid N0
    have HhB := Lib.hid hB
    clear KO N0 hB
    go_wp2_with fail
    clear o0 ol
    have KO := HKO.out
    have N0 := HN0.out
    have hB := HhB.out
    clear HKO HN0 HhB
    go_ret
    exact ⟨rfl, hB⟩
end Go.Proofs.Ytpikiehipeecoaa
