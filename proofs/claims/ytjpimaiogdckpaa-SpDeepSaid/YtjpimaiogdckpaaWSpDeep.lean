/-
  SP: the law SpDeep.
-/
import Derived.Test.YtjpimaiogdckpaaSpD
import Derived.Test.YtjpimaiogdckpaaSpX
import Derived.Test.YtjpimaiogdckpaaOwn
import Derived.LoopTactic
import Derived.OwnWalk
namespace Go.Proofs.Ytjpimaiogdckpaa
open Go.ChangeShapes Go.WideShapes Go.ChangeAt Go.RowKit

theorem splInfo : (Try.prog.info? 37).map (fun i => (i.zero, i.size, i.bytes)) = some (some (.agg #[.int .i64 0, .int .i64 0, .int .i64 0, .int .i64 0, .int .i64 0]), 5, 40) := by kernel_rfl
set_option maxRecDepth 100000 in
set_option maxHeartbeats 8000000 in
theorem walkSpDeep (a : Int) (w : World) (ha : 0 ≤ a ∧ a ≤ 255) :
    Calls Try.prog 7 #[.int .u8 a] w fun e w' => e = .returned (.bool true) ∧ Below w.heap.size w w' := by
  have hB := Below.refl w.heap.size w
  go_enter Try.func7, Try.ntmps7
  have HhB := Lib.hid hB
  clear  hB
  go_wp2_with fail
  have hB := HhB.out
  clear  HhB
  refine (awake_any _).mono ?_
  rintro e w1 ⟨rfl, hb⟩
  replace hB := hB.trans (hb.mono hB.size)
  clear hb
  obtain ⟨i0, hi0, hz0, hz1, hz2⟩ := info_parts splInfo
  obtain ⟨n, hn⟩ : ∃ k : Nat, 1 + a % 12 = (k : Int) := ⟨(1 + a % 12).toNat, by omega⟩
  have hn1 : 1 ≤ n ∧ n ≤ 12 := by omega
  have wn : IntKind.i64.wrap (n : Int) = n := by rw [IntKind.wrap_i64]; omega
  have HB := Lib.hid hB
  clear hB
  go_wp2_with fail
  go_loopw [5, 6, 7] (fun vl vs vi wr => ∃ i : Nat, vi = .int .i64 i ∧ i ≤ n ∧ vs = .int .i64 ((dStrand i : Nat) : Int) ∧ ∃ W', W' = wr ∧ Hid (W'.ownsRow w.heap.size 37 5 vl i (sdV (deepForks i))) ∧ Hid (Below w.heap.size w W')) (fun _ _ vi _ => n - (intOf vi).toNat)
  case atStart => exact ⟨0, rfl, by omega, rfl, _, rfl, Lib.hid (World.ownsRow_nil _ _ _ _), HB⟩
  case round =>
    clear HB
    obtain ⟨i, rfl, hi, rfl, wr, rfl, HO, HB⟩ := hrel
    obtain ⟨D, hD⟩ : ∃ D, dStrand i = D := ⟨_, rfl⟩
    rw [hD]
    have HD := Lib.hid hD
    clear hD
    by_cases hlt : i < n
    · obtain ⟨V, hV⟩ : ∃ V, V = wr.alloc (Obj.cells #[.int .i64 1, .int .i64 (D : Int), .int .i64 (3 * (i : Int) + 1), .int .i64 (3 * (i : Int) + 2), .int .i64 (3 * (i : Int) + 3)] 37) := ⟨_, rfl⟩
      have OV := own_below HO.out ((Below.refl _ _).alloc (Nat.le_refl _) (Obj.cells #[.int .i64 1, .int .i64 (D : Int), .int .i64 (3 * (i : Int) + 1), .int .i64 (3 * (i : Int) + 2), .int .i64 (3 * (i : Int) + 3)] 37))
      rw [← hV] at OV
      have BV : Below w.heap.size w V := by rw [hV]; exact HB.out.alloc HB.out.size _
      have hnews : ∀ qq u, ([.int .i64 1, .int .i64 (D : Int), .int .i64 (3 * (i : Int) + 1), .int .i64 (3 * (i : Int) + 2), .int .i64 (3 * (i : Int) + 3)] : List Value)[qq]? = some u → V.cell? ((⟨wr.heap.size, 0, none⟩ : Addr).add qq) = some u := by
        intro qq u hu
        rw [addr_add, Nat.zero_add, hV, (Blk.made wr _ _).cell]
        simpa using hu
      have HV := Lib.hid hV
      have HNW := Lib.hid hnews
      have HOV := Lib.hid OV
      have HBV := Lib.hid BV
      clear hV hnews OV BV HO HB
      go_wp2_with (at_builtin; rw [← HV.out]; refine wpList_append_own V rfl (.tmp 24) (.tmp 36) _ rfl w.heap.size 37 i0 _ 5 40 Try.underlying22 hi0 hz0 hz1 hz2 rfl (by omega) _ i _ rfl HOV.out ⟨wr.heap.size, 0, none⟩ 1 1 [.int .i64 1, .int .i64 (D : Int), .int .i64 (3 * (i : Int) + 1), .int .i64 (3 * (i : Int) + 2), .int .i64 (3 * (i : Int) + 3)] rfl rfl HNW.out (by simp [Value.oneCell']) (by unfold maxLen; omega) (by omega) HBV.out.size ?_; intro v4 w4 hown4 hg4 _)
      have B7 : Below w.heap.size w w4 := below_gb HBV.out hg4 HBV.out.size (fun i hi => (HOV.out.lt i hi).1)
      clear HNW HV HOV HBV hg4
      have O7 : w4.ownsRow w.heap.size 37 5 v4 (i + 1) (sdV (deepForks (i + 1))) := by
        rw [deepForks_succ, sdV_snoc]
        have : (deepFork i).cells = [.int .i64 1, .int .i64 (D : Int), .int .i64 (3 * (i : Int) + 1), .int .i64 (3 * (i : Int) + 2), .int .i64 (3 * (i : Int) + 3)] := by unfold deepFork SplV.cells; rw [HD.out]; simp
        rw [this]
        exact hown4
      have HO := Lib.hid O7
      have HB := Lib.hid B7
      clear O7 B7 hown4
      go_wp2_with fail
      go_roundw
      case rel => exact ⟨i + 1, by simp, by omega, by unfold dStrand; simp; omega, _, rfl, HO, HB⟩
      case measure => simp [intOf]; omega
    · obtain rfl : i = n := by omega
      have HO2 := Lib.hid (show wr.ownsRow w.heap.size 37 5 _ (i + 2 * 0) (sdV (deepForks i ++ deepTails i 0)) by rw [show deepTails i 0 = [] from rfl, List.append_nil]; exact HO.out)
      have HDE : Hid (D = dEnd i 0) := Lib.hid (by have := HD.out; unfold dStrand at this; unfold dEnd; rw [if_pos rfl]; omega)
      clear HO
      go_wp2_with fail
      go_loopw [5, 6, 8] (fun vl vs vi wr => ∃ c : Nat, c ≤ i ∧ vi = .int .i64 ((i : Int) - 1 - c) ∧ vs = .int .i64 ((dEnd i c : Nat) : Int) ∧ ∃ W', W' = wr ∧ Hid (W'.ownsRow w.heap.size 37 5 vl (i + 2 * c) (sdV (deepForks i ++ deepTails i c))) ∧ Hid (Below w.heap.size w W')) (fun _ _ vi _ => (intOf vi + 1).toNat)
      case atStart => exact ⟨0, by omega, by simp, by rw [← HDE.out], _, rfl, HO2, HB⟩
      case round =>
        clear HB HO2 HDE
        obtain ⟨c, hc, rfl, rfl, wr2, rfl, HO, HB⟩ := hrel
        obtain ⟨E, hE⟩ : ∃ D, dEnd i c = D := ⟨_, rfl⟩
        rw [hE]
        have HE := Lib.hid hE
        clear hE
        by_cases hlt : c < i
        · obtain ⟨q, hq⟩ : ∃ q : Nat, (i : Int) - 1 - c = q := ⟨i - 1 - c, by omega⟩
          rw [hq]
          have hqb : q ≤ 12 := by omega
          have HQ := Lib.hid hq
          clear hq
          obtain ⟨V, hV⟩ : ∃ V, V = wr2.alloc (Obj.cells #[.int .i64 2, .int .i64 (E : Int), .int .i64 0, .int .i64 0, .int .i64 (3 * (q : Int) + 3)] 37) := ⟨_, rfl⟩
          have OV := own_below HO.out ((Below.refl _ _).alloc (Nat.le_refl _) (Obj.cells #[.int .i64 2, .int .i64 (E : Int), .int .i64 0, .int .i64 0, .int .i64 (3 * (q : Int) + 3)] 37))
          rw [← hV] at OV
          have BV : Below w.heap.size w V := by rw [hV]; exact HB.out.alloc HB.out.size _
          have hnews : ∀ qq u, (#[.int .i64 2, .int .i64 (E : Int), .int .i64 0, .int .i64 0, .int .i64 (3 * (q : Int) + 3)] : Array Value).toList[qq]? = some u → V.cell? ((⟨wr2.heap.size, 0, none⟩ : Addr).add qq) = some u := by
            intro qq u hu
            rw [addr_add, Nat.zero_add, hV, (Blk.made wr2 _ _).cell]
            simpa using hu
          have HV := Lib.hid hV
          have HNW := Lib.hid hnews
          have HOV := Lib.hid OV
          have HBV := Lib.hid BV
          clear hV hnews OV BV HO HB
          go_wp2_with (first
            | (at_builtin
               rw [← HV.out]
               refine wpList_append_own V rfl (.tmp 47) (.tmp 53) _ rfl w.heap.size 37 i0 _ 5 40 Try.underlying22 hi0 hz0 hz1 hz2 rfl (by omega) _ (i + 2 * c) _ rfl HOV.out ⟨wr2.heap.size, 0, none⟩ 1 1 (#[.int .i64 2, .int .i64 (E : Int), .int .i64 0, .int .i64 0, .int .i64 (3 * (q : Int) + 3)] : Array Value).toList rfl rfl HNW.out (by simp [Value.oneCell']) (by unfold maxLen; omega) (by omega) HBV.out.size ?_
               intro v4 w4 hown4 hg4 _
               have B7 : Below w.heap.size w w4 := below_gb HBV.out hg4 HBV.out.size (fun i hi => (HOV.out.lt i hi).1)
               clear HNW HV HOV HBV hg4
               have HO := Lib.hid hown4
               have HB := Lib.hid B7
               obtain ⟨Vb, hV⟩ : ∃ V, V = w4.alloc (Obj.cells #[.int .i64 3, .int .i64 (3 * (q : Int) + 2), .int .i64 0, .int .i64 0, .int .i64 (3 * (q : Int) + 3)] 37) := ⟨_, rfl⟩
               have OV := own_below HO.out ((Below.refl _ _).alloc (Nat.le_refl _) (Obj.cells #[.int .i64 3, .int .i64 (3 * (q : Int) + 2), .int .i64 0, .int .i64 0, .int .i64 (3 * (q : Int) + 3)] 37))
               rw [← hV] at OV
               have BV : Below w.heap.size w Vb := by rw [hV]; exact HB.out.alloc HB.out.size _
               have hnews : ∀ qq u, (#[.int .i64 3, .int .i64 (3 * (q : Int) + 2), .int .i64 0, .int .i64 0, .int .i64 (3 * (q : Int) + 3)] : Array Value).toList[qq]? = some u → Vb.cell? ((⟨w4.heap.size, 0, none⟩ : Addr).add qq) = some u := by
                 intro qq u hu
                 rw [addr_add, Nat.zero_add, hV, (Blk.made w4 _ _).cell]
                 simpa using hu
               have HVb := Lib.hid hV
               have HNWb := Lib.hid hnews
               have HOVb := Lib.hid OV
               have HBVb := Lib.hid BV
               clear hV hnews OV BV HO HB B7 hown4)
            | (at_builtin
               rw [← HVb.out]
               refine wpList_append_own Vb rfl (.tmp 55) (.tmp 63) _ rfl w.heap.size 37 i0 _ 5 40 Try.underlying22 hi0 hz0 hz1 hz2 rfl (by omega) _ (i + 2 * c + 1) _ rfl HOVb.out ⟨w4.heap.size, 0, none⟩ 1 1 (#[.int .i64 3, .int .i64 (3 * (q : Int) + 2), .int .i64 0, .int .i64 0, .int .i64 (3 * (q : Int) + 3)] : Array Value).toList rfl rfl HNWb.out (by simp [Value.oneCell']) (by unfold maxLen; omega) (by omega) HBVb.out.size ?_
               intro v4b w4b hown4 hg4 _))
          have B7 : Below w.heap.size w w4b := below_gb HBVb.out hg4 HBVb.out.size (fun i hi => (HOVb.out.lt i hi).1)
          clear HNWb HVb HOVb HBVb hg4
          have O7 : w4b.ownsRow w.heap.size 37 5 v4b (i + 2 * (c + 1)) (sdV (deepForks i ++ deepTails i (c + 1))) := by
            have e1 : sdV (deepForks i ++ deepTails i (c + 1)) = sdV (deepForks i ++ deepTails i c) ++ [.int .i64 2, .int .i64 (E : Int), .int .i64 0, .int .i64 0, .int .i64 (3 * (q : Int) + 3)] ++ [.int .i64 3, .int .i64 (3 * (q : Int) + 2), .int .i64 0, .int .i64 0, .int .i64 (3 * (q : Int) + 3)] := by
              rw [deepTails_succ, ← List.append_assoc]
              have hq := HQ.out
              have hqn : i - 1 - c = q := by omega
              unfold deepTail
              rw [HE.out, hqn]
              unfold sdV
              simp [SplV.cells]
            rw [e1]
            exact hown4
          have HO := Lib.hid O7
          have HB := Lib.hid B7
          clear O7 B7 hown4
          go_roundw
          case rel => exact ⟨c + 1, by omega, by have := HQ.out; simp; omega, by have := HQ.out; unfold dEnd; simp; omega, _, rfl, HO, HB⟩
          case measure => have := HQ.out; simp [intOf] <;> omega
        · obtain rfl : c = i := by omega
          rcases HO.out.2 with ⟨_, h0⟩ | ⟨gl, cp, cur, hv, hr1⟩
          · omega
          have hv2 := hv.symm
          subst hv2
          clear hr1
          have HSD : Hid (Sds wr2 (some ⟨gl, 0, none⟩) (deepL c)) := Lib.hid (Sds.of_own HO.out)
          obtain ⟨s, hrun, hsn, hA, hB2, hP⟩ := deep_run c hn1.1 hn1.2
          have HRUN := Lib.hid hrun
          have HSN := Lib.hid hsn
          have HA := Lib.hid hA
          have HB2 := Lib.hid hB2
          have HP := Lib.hid hP
          have hB := HB.out
          clear HB HO hrun hsn hA hB2 hP
          go_wp2_with fail
          refine (of_ok (deepL c) (c + 2 * c) (by rw [deepL_len]; omega) (by omega) s HRUN.out _ _ _ HSD.out).mono ?_
          rintro e w5 ⟨go, rfl, -, PO, hb5⟩
          rw [HSN.out]
          replace hB := hB.trans (hb5.mono hB.size)
          clear hb5 HSD
          have HPO := Lib.hid PO
          have HhB := Lib.hid hB
          clear PO hB
          go_wp2_with fail
          have PO := HPO.out
          have hB := HhB.out
          clear HPO HhB
          obtain ⟨N, hN⟩ : ∃ N, 3 * c + 1 = N := ⟨_, rfl⟩
          have hN4 : N ≤ 3 * c + 1 ∧ 3 * c + 1 ≤ N := by omega
          rw [hN]
          have HLP : Hid ((placesOf s).length = N) := Lib.hid (by rw [placesOf_len, HSN.out, hN])
          clear hN
          have HPO := Lib.hid PO
          have HhB := Lib.hid hB
          clear PO hB
          go_loopw [11] (fun vi wr => ∃ x : Nat, vi = .int .i64 x ∧ x ≤ N ∧ ∃ W', W' = wr ∧ Hid (Pls W' (some ⟨go, 0, none⟩) (placesOf s)) ∧ Hid (Below w.heap.size w W')) (fun vi _ => N - (intOf vi).toNat)
          case atStart => exact ⟨0, rfl, by omega, _, rfl, HPO, HhB⟩
          case round =>
            clear HPO HhB
            obtain ⟨x, rfl, hx, wr3, rfl, HPO, HhB⟩ := hrel
            have PO := HPO.out
            have hB := HhB.out
            clear HPO HhB
            by_cases hx : x < N
            · by_cases x3 : x = 3
              · subst x3
                have hR := HB2.out 3 (by omega) (by decide)
                have HPO := Lib.hid PO
                have HhB := Lib.hid hB
                clear PO hB
                go_wp2_with fail
                have PO := HPO.out
                have hB := HhB.out
                clear HPO HhB
                refine (ahead_at (placesOf s) N HLP.out _ _ (0) (3) _ _ rfl rfl _ hR (by omega) (by omega) _ PO).mono ?_
                rintro e w2 ⟨rfl, hb⟩
                replace PO := PO.later hb
                replace hB := hB.trans (hb.mono hB.size)
                clear hb
                have HPO := Lib.hid PO
                have HhB := Lib.hid hB
                clear PO hB
                go_wp2_with fail
                clear hR
                have PO := HPO.out
                have hB := HhB.out
                clear HPO HhB
                have HPO := Lib.hid PO
                have HhB := Lib.hid hB
                clear PO hB
                go_roundw
                case rel => exact ⟨3 + 1, by simp, by omega, _, rfl, HPO, HhB⟩
                case measure => simp [intOf]; omega
              · have hR := HA.out x (by omega) x3
                have z1 : ((x : Int) != 3) = true := by simp; omega
                have z2 : ((x : Int) == 3) = false := by simp; omega
                have z3 : ¬ ((x : Int) = 3) := by omega
                by_cases x0 : x = 0
                · subst x0
                  have HPO := Lib.hid PO
                  have HhB := Lib.hid hB
                  clear PO hB
                  go_wp2_with fail
                  have PO := HPO.out
                  have hB := HhB.out
                  clear HPO HhB
                  refine (ahead_at (placesOf s) N HLP.out _ _ (0) (3) _ _ rfl rfl _ hR (by omega) (by omega) _ PO).mono ?_
                  rintro e w2 ⟨rfl, hb⟩
                  replace PO := PO.later hb
                  replace hB := hB.trans (hb.mono hB.size)
                  clear hb
                  have HPO := Lib.hid PO
                  have HhB := Lib.hid hB
                  clear PO hB
                  go_wp2_with fail
                  clear hR
                  have PO := HPO.out
                  have hB := HhB.out
                  clear HPO HhB
                  have HPO := Lib.hid PO
                  have HhB := Lib.hid hB
                  clear PO hB
                  go_roundw
                  case rel => exact ⟨0 + 1, by simp, by omega, _, rfl, HPO, HhB⟩
                  case measure => simp [intOf]; omega
                · have hR2 := HB2.out x (by omega) x0
                  have xp : 0 < x := by omega
                  have HPO := Lib.hid PO
                  have HhB := Lib.hid hB
                  clear PO hB
                  go_wp2_with fail
                  have PO := HPO.out
                  have hB := HhB.out
                  clear HPO HhB
                  refine (ahead_at (placesOf s) N HLP.out _ _ (x) (3) _ _ rfl rfl _ hR (by omega) (by omega) _ PO).mono ?_
                  rintro e w2 ⟨rfl, hb⟩
                  replace PO := PO.later hb
                  replace hB := hB.trans (hb.mono hB.size)
                  clear hb
                  have HPO := Lib.hid PO
                  have HhB := Lib.hid hB
                  clear PO hB
                  go_wp2_with fail
                  have PO := HPO.out
                  have hB := HhB.out
                  clear HPO HhB
                  refine (ahead_at (placesOf s) N HLP.out _ _ (0) (x) _ _ rfl rfl _ hR2 (by omega) (by omega) _ PO).mono ?_
                  rintro e w3 ⟨rfl, hb⟩
                  replace PO := PO.later hb
                  replace hB := hB.trans (hb.mono hB.size)
                  clear hb
                  have HPO := Lib.hid PO
                  have HhB := Lib.hid hB
                  clear PO hB
                  go_wp2_with fail
                  clear hR hR2
                  have PO := HPO.out
                  have hB := HhB.out
                  clear HPO HhB
                  have HPO := Lib.hid PO
                  have HhB := Lib.hid hB
                  clear PO hB
                  go_roundw
                  case rel => exact ⟨x + 1, by simp, by omega, _, rfl, HPO, HhB⟩
                  case measure => simp [intOf]; omega
            · obtain rfl : x = N := by omega
              have HPO := Lib.hid PO
              have HhB := Lib.hid hB
              clear PO hB
              go_wp2_with fail
              have PO := HPO.out
              have hB := HhB.out
              clear HPO HhB
              have HPO := Lib.hid PO
              have HhB := Lib.hid hB
              clear PO hB
              go_loopw [12] (fun vi wr => ∃ y : Nat, vi = .int .i64 y ∧ y ≤ c ∧ ∃ W', W' = wr ∧ Hid (Pls W' (some ⟨go, 0, none⟩) (placesOf s)) ∧ Hid (Below w.heap.size w W')) (fun vi _ => c - (intOf vi).toNat)
              case atStart => exact ⟨0, rfl, by omega, _, rfl, HPO, HhB⟩
              case round =>
                clear HPO HhB
                obtain ⟨y, rfl, hy, wr4, rfl, HPO, HhB⟩ := hrel
                have PO := HPO.out
                have hB := HhB.out
                clear HPO HhB
                by_cases hy : y < c
                · have HPO := Lib.hid PO
                  have HhB := Lib.hid hB
                  clear PO hB
                  go_wp2_with fail
                  have PO := HPO.out
                  have hB := HhB.out
                  clear HPO HhB
                  have HPO := Lib.hid PO
                  have HhB := Lib.hid hB
                  clear PO hB
                  go_loopw [13] (fun vi wr => ∃ z : Nat, vi = .int .i64 z ∧ z ≤ y ∧ ∃ W', W' = wr ∧ Hid (Pls W' (some ⟨go, 0, none⟩) (placesOf s)) ∧ Hid (Below w.heap.size w W')) (fun vi _ => y - (intOf vi).toNat)
                  case atStart => exact ⟨0, rfl, by omega, _, rfl, HPO, HhB⟩
                  case round =>
                    clear HPO HhB
                    obtain ⟨z, rfl, hz, wr5, rfl, HPO, HhB⟩ := hrel
                    have PO := HPO.out
                    have hB := HhB.out
                    clear HPO HhB
                    by_cases hz : z < y
                    · obtain ⟨hP1, hP2⟩ := HP.out y hy z hz
                      have HPO := Lib.hid PO
                      have HhB := Lib.hid hB
                      clear PO hB
                      go_wp2_with fail
                      have PO := HPO.out
                      have hB := HhB.out
                      clear HPO HhB
                      refine (par_at (placesOf s) x HLP.out _ _ (3 * y + 1) (3 * z + 2) _ _ (by omega) (by omega) _ hP1 (by omega) (by omega) _ PO).mono ?_
                      rintro e w2 ⟨rfl, hb⟩
                      replace PO := PO.later hb
                      replace hB := hB.trans (hb.mono hB.size)
                      clear hb
                      have HPO := Lib.hid PO
                      have HhB := Lib.hid hB
                      clear PO hB
                      go_wp2_with fail
                      have PO := HPO.out
                      have hB := HhB.out
                      clear HPO HhB
                      refine (par_at (placesOf s) x HLP.out _ _ (3 * y + 3) (3 * z + 2) _ _ (by omega) (by omega) _ hP2 (by omega) (by omega) _ PO).mono ?_
                      rintro e w3 ⟨rfl, hb⟩
                      replace PO := PO.later hb
                      replace hB := hB.trans (hb.mono hB.size)
                      clear hb
                      have HPO := Lib.hid PO
                      have HhB := Lib.hid hB
                      clear PO hB
                      go_wp2_with fail
                      clear hP1 hP2
                      have PO := HPO.out
                      have hB := HhB.out
                      clear HPO HhB
                      have HPO := Lib.hid PO
                      have HhB := Lib.hid hB
                      clear PO hB
                      go_roundw
                      case rel => exact ⟨z + 1, by simp, by omega, _, rfl, HPO, HhB⟩
                      case measure => simp [intOf]; omega
                    · obtain rfl : z = y := by omega
                      have HPO := Lib.hid PO
                      have HhB := Lib.hid hB
                      clear PO hB
                      go_wp2_with fail
                      have PO := HPO.out
                      have hB := HhB.out
                      clear HPO HhB
                      have HPO := Lib.hid PO
                      have HhB := Lib.hid hB
                      clear PO hB
                      go_roundw
                      case rel => exact ⟨z + 1, by simp, by omega, _, rfl, HPO, HhB⟩
                      case measure => simp [intOf]; omega
                · obtain rfl : y = c := by omega
                  have HPO := Lib.hid PO
                  have HhB := Lib.hid hB
                  clear PO hB
                  go_wp2_with fail
                  have PO := HPO.out
                  have hB := HhB.out
                  clear HPO HhB
                  go_ret
                  exact ⟨rfl, hB⟩
end Go.Proofs.Ytjpimaiogdckpaa
