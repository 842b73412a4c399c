/-
  OM: the law OmTotal.
-/
import Derived.Test.YtpikiehipeecoaaOmW
namespace Go.Proofs.Ytpikiehipeecoaa
open Go.ChangeShapes Go.WideShapes Go.ChangeAt Go.RowKit Go.Sort

set_option maxRecDepth 100000 in
set_option maxHeartbeats 8000000 in
theorem walkOmTotal (p : Option Addr) (n c : Nat) (kz : List Int) (x y z : Int) (w : World) (wk : IsRow .i64 w p n c kz) (hx : 0 ≤ x ∧ x ≤ 255) (hy : 0 ≤ y ∧ y ≤ 255) (hz : 0 ≤ z ∧ z ≤ 255) :
    Calls Try.prog 4 #[.agg #[.slice p n c, .int .u8 x, .int .u8 y, .int .u8 z]] w fun e w' => e = .returned (.bool true) ∧ Below w.heap.size w w' := by
  obtain ⟨N0, n0⟩ := Nums.of_row wk
  generalize kz.take n = l at N0 n0
  clear wk kz
  obtain ⟨V0, hV⟩ : ∃ V, V = ((w.alloc (Obj.cells #[.slice p n c, .int .u8 x, .int .u8 y, .int .u8 z] 37)).alloc (Obj.cells #[.slice p n c] 26)) := ⟨_, rfl⟩
  have hB : Below w.heap.size w V0 := by rw [hV]; exact below_alloc2 w _ _
  have KW : Blk V0 (w.heap.size) 37 #[.slice p n c, .int .u8 x, .int .u8 y, .int .u8 z] := by rw [hV]; exact (Blk.made w _ _).alloc _
  have KO : Blk V0 (w.heap.size + 1) 26 #[.slice p n c] := by rw [hV]; exact Blk.made1 w _ _ _
  have HV := Lib.hid hV
  clear hV
  replace N0 := N0.later hB
  have HL := Lib.hid n0
  clear n0
  go_enter Try.func4, Try.ntmps4
  have HKW := Lib.hid KW
  have HKO := Lib.hid KO
  have HN0 := Lib.hid N0
  have HhB := Lib.hid hB
  clear KW KO N0 hB
  go_wp2_with fail
  have KW := HKW.out
  have KO := HKO.out
  have N0 := HN0.out
  have hB := HhB.out
  clear HKW HKO HN0 HhB
  rw [← HV.out]
  clear HV
  refine (shown_any _).mono ?_
  rintro e w1 ⟨rfl, hb⟩
  replace KW := KW.later hb
  replace KO := KO.later hb
  replace N0 := N0.later hb
  replace hB := hB.trans (hb.mono hB.size)
  clear hb
  by_cases h60 : 60 < n
  · have d1 : decide (60 < (n : Int)) = true := by simp; omega
    have o0 : World.cell? _ ⟨w.heap.size + 1, 0, none⟩ = some (.slice p n c) := KO.cell 0
    have ol := KO.lt
    have HKW := Lib.hid KW
    have HKO := Lib.hid KO
    have HN0 := Lib.hid N0
    have HhB := Lib.hid hB
    clear KW KO N0 hB
    go_wp2_with fail
    clear o0 ol
    have KW := HKW.out
    have KO := HKO.out
    have N0 := HN0.out
    have hB := HhB.out
    clear HKW HKO HN0 HhB
    go_ret
    exact ⟨rfl, hB⟩
  have d1 : decide (60 < (n : Int)) = false := by simp; omega
  by_cases hrt : Rt l
  · have hn0 : 0 < n := by have := hrt.1; have := HL.out; omega
    obtain ⟨a, ha⟩ : ∃ a : Nat, Int.tmod x n = (a : Int) := ⟨(Int.tmod x n).toNat, by rw [Int.tmod_eq_emod_of_nonneg hx.1]; have := Int.emod_nonneg x (show (n : Int) ≠ 0 by omega); omega⟩
    obtain ⟨b, hb'⟩ : ∃ a : Nat, Int.tmod y n = (a : Int) := ⟨(Int.tmod y n).toNat, by rw [Int.tmod_eq_emod_of_nonneg hy.1]; have := Int.emod_nonneg y (show (n : Int) ≠ 0 by omega); omega⟩
    obtain ⟨e, he'⟩ : ∃ a : Nat, Int.tmod z n = (a : Int) := ⟨(Int.tmod z n).toNat, by rw [Int.tmod_eq_emod_of_nonneg hz.1]; have := Int.emod_nonneg z (show (n : Int) ≠ 0 by omega); omega⟩
    have han : a < n := by rw [Int.tmod_eq_emod_of_nonneg hx.1] at ha; have := Int.emod_lt_of_pos x (show (0 : Int) < n by omega); omega
    have hbn : b < n := by rw [Int.tmod_eq_emod_of_nonneg hy.1] at hb'; have := Int.emod_lt_of_pos y (show (0 : Int) < n by omega); omega
    have hen : e < n := by rw [Int.tmod_eq_emod_of_nonneg hz.1] at he'; have := Int.emod_lt_of_pos z (show (0 : Int) < n by omega); omega
    have wa : IntKind.i64.wrap (a : Int) = a := by rw [IntKind.wrap_i64]; omega
    have wb : IntKind.i64.wrap (b : Int) = b := by rw [IntKind.wrap_i64]; omega
    have we : IntKind.i64.wrap (e : Int) = e := by rw [IntKind.wrap_i64]; omega
    have nz : (n : Int) ≠ 0 := by omega
    have nz2 : ((n : Int) == 0) = false := by simp; omega
    have HLT : Hid (∀ i j, i < n → j < n → (l.getD i 0 = l.getD j 0 → i = j)) := Lib.hid fun i j hi hj h => nodup_getD hrt.2.2.2 (by rw [HL.out]; exact hi) (by rw [HL.out]; exact hj) h
    have o0 : World.cell? _ ⟨w.heap.size + 1, 0, none⟩ = some (.slice p n c) := KO.cell 0
    have ol := KO.lt
    have HKW := Lib.hid KW
    have HKO := Lib.hid KO
    have HN0 := Lib.hid N0
    have HhB := Lib.hid hB
    clear KW KO N0 hB
    go_wp2_with fail
    clear o0 ol
    have KW := HKW.out
    have KO := HKO.out
    have N0 := HN0.out
    have hB := HhB.out
    clear HKW HKO HN0 HhB
    refine (refright_at l n HL.out true (decide_eq_true hrt) _ _ _ N0).mono ?_
    rintro e w2 ⟨rfl, hb⟩
    replace KW := KW.later hb
    replace KO := KO.later hb
    replace N0 := N0.later hb
    replace hB := hB.trans (hb.mono hB.size)
    clear hb
    have o0 : World.cell? _ ⟨w.heap.size + 1, 0, none⟩ = some (.slice p n c) := KO.cell 0
    have ol := KO.lt
    have HKW := Lib.hid KW
    have HKO := Lib.hid KO
    have HN0 := Lib.hid N0
    have HhB := Lib.hid hB
    clear KW KO N0 hB
    go_wp2_with fail
    clear o0 ol
    have KW := HKW.out
    have KO := HKO.out
    have N0 := HN0.out
    have hB := HhB.out
    clear HKW HKO HN0 HhB
    by_cases hab : a = b
    · have hp : decide (l.getD a 0 < l.getD b 0) = false := by subst hab; simp
      have hq : decide (l.getD b 0 < l.getD a 0) = false := by subst hab; simp
      have HAB := Lib.hid hab
      clear hab
      refine (before_at l n HL.out hrt _ _ a b a b false rfl rfl han hbn hp _ N0).mono ?_
      rintro e w3 ⟨rfl, hb⟩
      replace KW := KW.later hb
      replace KO := KO.later hb
      replace N0 := N0.later hb
      replace hB := hB.trans (hb.mono hB.size)
      clear hb
      have o0 : World.cell? _ ⟨w.heap.size + 1, 0, none⟩ = some (.slice p n c) := KO.cell 0
      have ol := KO.lt
      have HKW := Lib.hid KW
      have HKO := Lib.hid KO
      have HN0 := Lib.hid N0
      have HhB := Lib.hid hB
      clear KW KO N0 hB
      go_wp2_with fail
      clear o0 ol
      have KW := HKW.out
      have KO := HKO.out
      have N0 := HN0.out
      have hB := HhB.out
      clear HKW HKO HN0 HhB
      refine (before_at l n HL.out hrt _ _ b a b a false rfl rfl hbn han hq _ N0).mono ?_
      rintro e w4 ⟨rfl, hb⟩
      replace KW := KW.later hb
      replace KO := KO.later hb
      replace N0 := N0.later hb
      replace hB := hB.trans (hb.mono hB.size)
      clear hb
      have m1 : ((a : Int) != (b : Int)) = false := by have hq9 := HAB.out; simp; omega
      have m2 : ((a : Int) == (b : Int)) = true := by have hq9 := HAB.out; simp; omega
      have m3 : decide ((a : Int) = (b : Int)) = true := by have hq9 := HAB.out; simp; omega
      have o0 : World.cell? _ ⟨w.heap.size + 1, 0, none⟩ = some (.slice p n c) := KO.cell 0
      have ol := KO.lt
      have HKW := Lib.hid KW
      have HKO := Lib.hid KO
      have HN0 := Lib.hid N0
      have HhB := Lib.hid hB
      clear KW KO N0 hB
      go_wp2_with fail
      clear o0 ol
      have KW := HKW.out
      have KO := HKO.out
      have N0 := HN0.out
      have hB := HhB.out
      clear HKW HKO HN0 HhB
      refine (before_at l n HL.out hrt _ _ a a a a false rfl rfl han han (by simp) _ N0).mono ?_
      rintro e w5 ⟨rfl, hb⟩
      replace KW := KW.later hb
      replace KO := KO.later hb
      replace N0 := N0.later hb
      replace hB := hB.trans (hb.mono hB.size)
      clear hb
      have o0 : World.cell? _ ⟨w.heap.size + 1, 0, none⟩ = some (.slice p n c) := KO.cell 0
      have ol := KO.lt
      have HKW := Lib.hid KW
      have HKO := Lib.hid KO
      have HN0 := Lib.hid N0
      have HhB := Lib.hid hB
      clear KW KO N0 hB
      go_wp2_with fail
      clear o0 ol
      have KW := HKW.out
      have KO := HKO.out
      have N0 := HN0.out
      have hB := HhB.out
      clear HKW HKO HN0 HhB
      refine (before_up l n HL.out hrt _ _ a han _ N0).mono ?_
      rintro e w6 ⟨rfl, hb⟩
      replace KW := KW.later hb
      replace KO := KO.later hb
      replace N0 := N0.later hb
      replace hB := hB.trans (hb.mono hB.size)
      clear hb
      have o0 : World.cell? _ ⟨w.heap.size + 1, 0, none⟩ = some (.slice p n c) := KO.cell 0
      have ol := KO.lt
      have HKW := Lib.hid KW
      have HKO := Lib.hid KO
      have HN0 := Lib.hid N0
      have HhB := Lib.hid hB
      clear KW KO N0 hB
      go_wp2_with fail
      clear o0 ol
      have KW := HKW.out
      have KO := HKO.out
      have N0 := HN0.out
      have hB := HhB.out
      clear HKW HKO HN0 HhB
      refine (before_neg l n HL.out hrt _ _ a _ N0).mono ?_
      rintro e w7 ⟨rfl, hb⟩
      replace KW := KW.later hb
      replace KO := KO.later hb
      replace N0 := N0.later hb
      replace hB := hB.trans (hb.mono hB.size)
      clear hb
      have o0 : World.cell? _ ⟨w.heap.size + 1, 0, none⟩ = some (.slice p n c) := KO.cell 0
      have ol := KO.lt
      have HKW := Lib.hid KW
      have HKO := Lib.hid KO
      have HN0 := Lib.hid N0
      have HhB := Lib.hid hB
      clear KW KO N0 hB
      go_wp2_with fail
      clear o0 ol
      have KW := HKW.out
      have KO := HKO.out
      have N0 := HN0.out
      have hB := HhB.out
      clear HKW HKO HN0 HhB
      go_ret
      exact ⟨rfl, hB⟩
    have hne : l.getD a 0 ≠ l.getD b 0 := fun h => hab (HLT.out a b han hbn h)
    by_cases hpp : l.getD a 0 < l.getD b 0
    · by_cases hrr : l.getD b 0 < l.getD e 0
      · have hp : decide (l.getD a 0 < l.getD b 0) = true := decide_eq_true hpp
        have hq : decide (l.getD b 0 < l.getD a 0) = false := decide_eq_false (by omega)
        have hr : decide (l.getD b 0 < l.getD e 0) = true := decide_eq_true hrr
        have hs : decide (l.getD a 0 < l.getD e 0) = true := decide_eq_true (by omega)
        have HAB := Lib.hid hab
        clear hab
        refine (before_at l n HL.out hrt _ _ a b a b true rfl rfl han hbn hp _ N0).mono ?_
        rintro e w3 ⟨rfl, hb⟩
        replace KW := KW.later hb
        replace KO := KO.later hb
        replace N0 := N0.later hb
        replace hB := hB.trans (hb.mono hB.size)
        clear hb
        have o0 : World.cell? _ ⟨w.heap.size + 1, 0, none⟩ = some (.slice p n c) := KO.cell 0
        have ol := KO.lt
        have HKW := Lib.hid KW
        have HKO := Lib.hid KO
        have HN0 := Lib.hid N0
        have HhB := Lib.hid hB
        clear KW KO N0 hB
        go_wp2_with fail
        clear o0 ol
        have KW := HKW.out
        have KO := HKO.out
        have N0 := HN0.out
        have hB := HhB.out
        clear HKW HKO HN0 HhB
        refine (before_at l n HL.out hrt _ _ b a b a false rfl rfl hbn han hq _ N0).mono ?_
        rintro e w4 ⟨rfl, hb⟩
        replace KW := KW.later hb
        replace KO := KO.later hb
        replace N0 := N0.later hb
        replace hB := hB.trans (hb.mono hB.size)
        clear hb
        have m1 : ((a : Int) != (b : Int)) = true := by have hq9 := HAB.out; simp; omega
        have m2 : ((a : Int) == (b : Int)) = false := by have hq9 := HAB.out; simp; omega
        have m3 : decide ((a : Int) = (b : Int)) = false := by have hq9 := HAB.out; simp; omega
        have o0 : World.cell? _ ⟨w.heap.size + 1, 0, none⟩ = some (.slice p n c) := KO.cell 0
        have ol := KO.lt
        have HKW := Lib.hid KW
        have HKO := Lib.hid KO
        have HN0 := Lib.hid N0
        have HhB := Lib.hid hB
        clear KW KO N0 hB
        go_wp2_with fail
        clear o0 ol
        have KW := HKW.out
        have KO := HKO.out
        have N0 := HN0.out
        have hB := HhB.out
        clear HKW HKO HN0 HhB
        refine (before_at l n HL.out hrt _ _ a a a a false rfl rfl han han (by simp) _ N0).mono ?_
        rintro e w5 ⟨rfl, hb⟩
        replace KW := KW.later hb
        replace KO := KO.later hb
        replace N0 := N0.later hb
        replace hB := hB.trans (hb.mono hB.size)
        clear hb
        have o0 : World.cell? _ ⟨w.heap.size + 1, 0, none⟩ = some (.slice p n c) := KO.cell 0
        have ol := KO.lt
        have HKW := Lib.hid KW
        have HKO := Lib.hid KO
        have HN0 := Lib.hid N0
        have HhB := Lib.hid hB
        clear KW KO N0 hB
        go_wp2_with fail
        clear o0 ol
        have KW := HKW.out
        have KO := HKO.out
        have N0 := HN0.out
        have hB := HhB.out
        clear HKW HKO HN0 HhB
        refine (before_at l n HL.out hrt _ _ b e b e true rfl rfl hbn hen hr _ N0).mono ?_
        rintro e w6 ⟨rfl, hb⟩
        replace KW := KW.later hb
        replace KO := KO.later hb
        replace N0 := N0.later hb
        replace hB := hB.trans (hb.mono hB.size)
        clear hb
        have o0 : World.cell? _ ⟨w.heap.size + 1, 0, none⟩ = some (.slice p n c) := KO.cell 0
        have ol := KO.lt
        have HKW := Lib.hid KW
        have HKO := Lib.hid KO
        have HN0 := Lib.hid N0
        have HhB := Lib.hid hB
        clear KW KO N0 hB
        go_wp2_with fail
        clear o0 ol
        have KW := HKW.out
        have KO := HKO.out
        have N0 := HN0.out
        have hB := HhB.out
        clear HKW HKO HN0 HhB
        refine (before_at l n HL.out hrt _ _ a e a e true rfl rfl han hen hs _ N0).mono ?_
        rintro e w7 ⟨rfl, hb⟩
        replace KW := KW.later hb
        replace KO := KO.later hb
        replace N0 := N0.later hb
        replace hB := hB.trans (hb.mono hB.size)
        clear hb
        have o0 : World.cell? _ ⟨w.heap.size + 1, 0, none⟩ = some (.slice p n c) := KO.cell 0
        have ol := KO.lt
        have HKW := Lib.hid KW
        have HKO := Lib.hid KO
        have HN0 := Lib.hid N0
        have HhB := Lib.hid hB
        clear KW KO N0 hB
        go_wp2_with fail
        clear o0 ol
        have KW := HKW.out
        have KO := HKO.out
        have N0 := HN0.out
        have hB := HhB.out
        clear HKW HKO HN0 HhB
        refine (before_up l n HL.out hrt _ _ a han _ N0).mono ?_
        rintro e w8 ⟨rfl, hb⟩
        replace KW := KW.later hb
        replace KO := KO.later hb
        replace N0 := N0.later hb
        replace hB := hB.trans (hb.mono hB.size)
        clear hb
        have o0 : World.cell? _ ⟨w.heap.size + 1, 0, none⟩ = some (.slice p n c) := KO.cell 0
        have ol := KO.lt
        have HKW := Lib.hid KW
        have HKO := Lib.hid KO
        have HN0 := Lib.hid N0
        have HhB := Lib.hid hB
        clear KW KO N0 hB
        go_wp2_with fail
        clear o0 ol
        have KW := HKW.out
        have KO := HKO.out
        have N0 := HN0.out
        have hB := HhB.out
        clear HKW HKO HN0 HhB
        refine (before_neg l n HL.out hrt _ _ a _ N0).mono ?_
        rintro e w9 ⟨rfl, hb⟩
        replace KW := KW.later hb
        replace KO := KO.later hb
        replace N0 := N0.later hb
        replace hB := hB.trans (hb.mono hB.size)
        clear hb
        have o0 : World.cell? _ ⟨w.heap.size + 1, 0, none⟩ = some (.slice p n c) := KO.cell 0
        have ol := KO.lt
        have HKW := Lib.hid KW
        have HKO := Lib.hid KO
        have HN0 := Lib.hid N0
        have HhB := Lib.hid hB
        clear KW KO N0 hB
        go_wp2_with fail
        clear o0 ol
        have KW := HKW.out
        have KO := HKO.out
        have N0 := HN0.out
        have hB := HhB.out
        clear HKW HKO HN0 HhB
        go_ret
        exact ⟨rfl, hB⟩
      · have hp : decide (l.getD a 0 < l.getD b 0) = true := decide_eq_true hpp
        have hq : decide (l.getD b 0 < l.getD a 0) = false := decide_eq_false (by omega)
        have hr : decide (l.getD b 0 < l.getD e 0) = false := decide_eq_false hrr
        have HAB := Lib.hid hab
        clear hab
        refine (before_at l n HL.out hrt _ _ a b a b true rfl rfl han hbn hp _ N0).mono ?_
        rintro e w3 ⟨rfl, hb⟩
        replace KW := KW.later hb
        replace KO := KO.later hb
        replace N0 := N0.later hb
        replace hB := hB.trans (hb.mono hB.size)
        clear hb
        have o0 : World.cell? _ ⟨w.heap.size + 1, 0, none⟩ = some (.slice p n c) := KO.cell 0
        have ol := KO.lt
        have HKW := Lib.hid KW
        have HKO := Lib.hid KO
        have HN0 := Lib.hid N0
        have HhB := Lib.hid hB
        clear KW KO N0 hB
        go_wp2_with fail
        clear o0 ol
        have KW := HKW.out
        have KO := HKO.out
        have N0 := HN0.out
        have hB := HhB.out
        clear HKW HKO HN0 HhB
        refine (before_at l n HL.out hrt _ _ b a b a false rfl rfl hbn han hq _ N0).mono ?_
        rintro e w4 ⟨rfl, hb⟩
        replace KW := KW.later hb
        replace KO := KO.later hb
        replace N0 := N0.later hb
        replace hB := hB.trans (hb.mono hB.size)
        clear hb
        have m1 : ((a : Int) != (b : Int)) = true := by have hq9 := HAB.out; simp; omega
        have m2 : ((a : Int) == (b : Int)) = false := by have hq9 := HAB.out; simp; omega
        have m3 : decide ((a : Int) = (b : Int)) = false := by have hq9 := HAB.out; simp; omega
        have o0 : World.cell? _ ⟨w.heap.size + 1, 0, none⟩ = some (.slice p n c) := KO.cell 0
        have ol := KO.lt
        have HKW := Lib.hid KW
        have HKO := Lib.hid KO
        have HN0 := Lib.hid N0
        have HhB := Lib.hid hB
        clear KW KO N0 hB
        go_wp2_with fail
        clear o0 ol
        have KW := HKW.out
        have KO := HKO.out
        have N0 := HN0.out
        have hB := HhB.out
        clear HKW HKO HN0 HhB
        refine (before_at l n HL.out hrt _ _ a a a a false rfl rfl han han (by simp) _ N0).mono ?_
        rintro e w5 ⟨rfl, hb⟩
        replace KW := KW.later hb
        replace KO := KO.later hb
        replace N0 := N0.later hb
        replace hB := hB.trans (hb.mono hB.size)
        clear hb
        have o0 : World.cell? _ ⟨w.heap.size + 1, 0, none⟩ = some (.slice p n c) := KO.cell 0
        have ol := KO.lt
        have HKW := Lib.hid KW
        have HKO := Lib.hid KO
        have HN0 := Lib.hid N0
        have HhB := Lib.hid hB
        clear KW KO N0 hB
        go_wp2_with fail
        clear o0 ol
        have KW := HKW.out
        have KO := HKO.out
        have N0 := HN0.out
        have hB := HhB.out
        clear HKW HKO HN0 HhB
        refine (before_at l n HL.out hrt _ _ b e b e false rfl rfl hbn hen hr _ N0).mono ?_
        rintro e w6 ⟨rfl, hb⟩
        replace KW := KW.later hb
        replace KO := KO.later hb
        replace N0 := N0.later hb
        replace hB := hB.trans (hb.mono hB.size)
        clear hb
        have o0 : World.cell? _ ⟨w.heap.size + 1, 0, none⟩ = some (.slice p n c) := KO.cell 0
        have ol := KO.lt
        have HKW := Lib.hid KW
        have HKO := Lib.hid KO
        have HN0 := Lib.hid N0
        have HhB := Lib.hid hB
        clear KW KO N0 hB
        go_wp2_with fail
        clear o0 ol
        have KW := HKW.out
        have KO := HKO.out
        have N0 := HN0.out
        have hB := HhB.out
        clear HKW HKO HN0 HhB
        refine (before_up l n HL.out hrt _ _ a han _ N0).mono ?_
        rintro e w7 ⟨rfl, hb⟩
        replace KW := KW.later hb
        replace KO := KO.later hb
        replace N0 := N0.later hb
        replace hB := hB.trans (hb.mono hB.size)
        clear hb
        have o0 : World.cell? _ ⟨w.heap.size + 1, 0, none⟩ = some (.slice p n c) := KO.cell 0
        have ol := KO.lt
        have HKW := Lib.hid KW
        have HKO := Lib.hid KO
        have HN0 := Lib.hid N0
        have HhB := Lib.hid hB
        clear KW KO N0 hB
        go_wp2_with fail
        clear o0 ol
        have KW := HKW.out
        have KO := HKO.out
        have N0 := HN0.out
        have hB := HhB.out
        clear HKW HKO HN0 HhB
        refine (before_neg l n HL.out hrt _ _ a _ N0).mono ?_
        rintro e w8 ⟨rfl, hb⟩
        replace KW := KW.later hb
        replace KO := KO.later hb
        replace N0 := N0.later hb
        replace hB := hB.trans (hb.mono hB.size)
        clear hb
        have o0 : World.cell? _ ⟨w.heap.size + 1, 0, none⟩ = some (.slice p n c) := KO.cell 0
        have ol := KO.lt
        have HKW := Lib.hid KW
        have HKO := Lib.hid KO
        have HN0 := Lib.hid N0
        have HhB := Lib.hid hB
        clear KW KO N0 hB
        go_wp2_with fail
        clear o0 ol
        have KW := HKW.out
        have KO := HKO.out
        have N0 := HN0.out
        have hB := HhB.out
        clear HKW HKO HN0 HhB
        go_ret
        exact ⟨rfl, hB⟩
    · have hp : decide (l.getD a 0 < l.getD b 0) = false := decide_eq_false hpp
      have hq : decide (l.getD b 0 < l.getD a 0) = true := decide_eq_true (by omega)
      have HAB := Lib.hid hab
      clear hab
      refine (before_at l n HL.out hrt _ _ a b a b false rfl rfl han hbn hp _ N0).mono ?_
      rintro e w3 ⟨rfl, hb⟩
      replace KW := KW.later hb
      replace KO := KO.later hb
      replace N0 := N0.later hb
      replace hB := hB.trans (hb.mono hB.size)
      clear hb
      have o0 : World.cell? _ ⟨w.heap.size + 1, 0, none⟩ = some (.slice p n c) := KO.cell 0
      have ol := KO.lt
      have HKW := Lib.hid KW
      have HKO := Lib.hid KO
      have HN0 := Lib.hid N0
      have HhB := Lib.hid hB
      clear KW KO N0 hB
      go_wp2_with fail
      clear o0 ol
      have KW := HKW.out
      have KO := HKO.out
      have N0 := HN0.out
      have hB := HhB.out
      clear HKW HKO HN0 HhB
      refine (before_at l n HL.out hrt _ _ b a b a true rfl rfl hbn han hq _ N0).mono ?_
      rintro e w4 ⟨rfl, hb⟩
      replace KW := KW.later hb
      replace KO := KO.later hb
      replace N0 := N0.later hb
      replace hB := hB.trans (hb.mono hB.size)
      clear hb
      have m1 : ((a : Int) != (b : Int)) = true := by have hq9 := HAB.out; simp; omega
      have m2 : ((a : Int) == (b : Int)) = false := by have hq9 := HAB.out; simp; omega
      have m3 : decide ((a : Int) = (b : Int)) = false := by have hq9 := HAB.out; simp; omega
      have o0 : World.cell? _ ⟨w.heap.size + 1, 0, none⟩ = some (.slice p n c) := KO.cell 0
      have ol := KO.lt
      have HKW := Lib.hid KW
      have HKO := Lib.hid KO
      have HN0 := Lib.hid N0
      have HhB := Lib.hid hB
      clear KW KO N0 hB
      go_wp2_with fail
      clear o0 ol
      have KW := HKW.out
      have KO := HKO.out
      have N0 := HN0.out
      have hB := HhB.out
      clear HKW HKO HN0 HhB
      refine (before_at l n HL.out hrt _ _ a a a a false rfl rfl han han (by simp) _ N0).mono ?_
      rintro e w5 ⟨rfl, hb⟩
      replace KW := KW.later hb
      replace KO := KO.later hb
      replace N0 := N0.later hb
      replace hB := hB.trans (hb.mono hB.size)
      clear hb
      have o0 : World.cell? _ ⟨w.heap.size + 1, 0, none⟩ = some (.slice p n c) := KO.cell 0
      have ol := KO.lt
      have HKW := Lib.hid KW
      have HKO := Lib.hid KO
      have HN0 := Lib.hid N0
      have HhB := Lib.hid hB
      clear KW KO N0 hB
      go_wp2_with fail
      clear o0 ol
      have KW := HKW.out
      have KO := HKO.out
      have N0 := HN0.out
      have hB := HhB.out
      clear HKW HKO HN0 HhB
      refine (before_up l n HL.out hrt _ _ a han _ N0).mono ?_
      rintro e w6 ⟨rfl, hb⟩
      replace KW := KW.later hb
      replace KO := KO.later hb
      replace N0 := N0.later hb
      replace hB := hB.trans (hb.mono hB.size)
      clear hb
      have o0 : World.cell? _ ⟨w.heap.size + 1, 0, none⟩ = some (.slice p n c) := KO.cell 0
      have ol := KO.lt
      have HKW := Lib.hid KW
      have HKO := Lib.hid KO
      have HN0 := Lib.hid N0
      have HhB := Lib.hid hB
      clear KW KO N0 hB
      go_wp2_with fail
      clear o0 ol
      have KW := HKW.out
      have KO := HKO.out
      have N0 := HN0.out
      have hB := HhB.out
      clear HKW HKO HN0 HhB
      refine (before_neg l n HL.out hrt _ _ a _ N0).mono ?_
      rintro e w7 ⟨rfl, hb⟩
      replace KW := KW.later hb
      replace KO := KO.later hb
      replace N0 := N0.later hb
      replace hB := hB.trans (hb.mono hB.size)
      clear hb
      have o0 : World.cell? _ ⟨w.heap.size + 1, 0, none⟩ = some (.slice p n c) := KO.cell 0
      have ol := KO.lt
      have HKW := Lib.hid KW
      have HKO := Lib.hid KO
      have HN0 := Lib.hid N0
      have HhB := Lib.hid hB
      clear KW KO N0 hB
      go_wp2_with fail
      clear o0 ol
      have KW := HKW.out
      have KO := HKO.out
      have N0 := HN0.out
      have hB := HhB.out
      clear HKW HKO HN0 HhB
      go_ret
      exact ⟨rfl, hB⟩
  · have o0 : World.cell? _ ⟨w.heap.size + 1, 0, none⟩ = some (.slice p n c) := KO.cell 0
    have ol := KO.lt
    have HKW := Lib.hid KW
    have HKO := Lib.hid KO
    have HN0 := Lib.hid N0
    have HhB := Lib.hid hB
    clear KW KO N0 hB
    go_wp2_with fail
    clear o0 ol
    have KW := HKW.out
    have KO := HKO.out
    have N0 := HN0.out
    have hB := HhB.out
    clear HKW HKO HN0 HhB
    refine (refright_at l n HL.out false (decide_eq_false hrt) _ _ _ N0).mono ?_
    rintro e w2 ⟨rfl, hb⟩
    replace KW := KW.later hb
    replace KO := KO.later hb
    replace N0 := N0.later hb
    replace hB := hB.trans (hb.mono hB.size)
    clear hb
    have o0 : World.cell? _ ⟨w.heap.size + 1, 0, none⟩ = some (.slice p n c) := KO.cell 0
    have ol := KO.lt
    have HKW := Lib.hid KW
    have HKO := Lib.hid KO
    have HN0 := Lib.hid N0
    have HhB := Lib.hid hB
    clear KW KO N0 hB
    go_wp2_with fail
    clear o0 ol
    have KW := HKW.out
    have KO := HKO.out
    have N0 := HN0.out
    have hB := HhB.out
    clear HKW HKO HN0 HhB
    go_ret
    exact ⟨rfl, hB⟩
end Go.Proofs.Ytpikiehipeecoaa
