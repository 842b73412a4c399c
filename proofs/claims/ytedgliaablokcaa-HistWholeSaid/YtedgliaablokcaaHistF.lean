/-
  HIST: the document's Right.
-/
import Derived.Test.YtedgliaablokcaaRows
import Derived.ProofKit
import Derived.Deep.QuietTactic
import Derived.BigQuiet
import Derived.LoopTactic
import Derived.Test.YtedgliaablokcaaHistP
import Derived.Test.YtedgliaablokcaaHistB
namespace Go.Proofs.Ytedgliaablokcaa
open Go.ChangeShapes Go.WideShapes Go.ChangeAt Go.RowKit

set_option maxRecDepth 100000 in
set_option maxHeartbeats 8000000 in
theorem rright_any (l : List CallV) (p : Option Addr) (cap : Nat) (w : World) (h : Hcs w p l) (hl : l.length ≤ 1000000) :
    Calls Try.prog 9 #[.slice p l.length cap] w fun e w' => e = .returned (.bool (rightB l)) ∧ Below w.heap.size w w' := by
  obtain ⟨R, hR⟩ : ∃ R, rightB l = R := ⟨_, rfl⟩
  obtain ⟨n, hn⟩ : ∃ n, l.length = n := ⟨_, rfl⟩
  have hyes : Hid (OkUpto l n → R = true) := Lib.hid fun H => by rw [← hR]; exact (rightB_iff l).2 (by rw [hn]; exact H)
  have hmay : Hid (∀ i (hi : i < l.length), mayC l[i] = false → R = false) := Lib.hid fun i hi h => by rw [← hR]; exact not_may i hi h
  have hbeh : Hid (∀ k i (hk : k < l.length) (hi : i < l.length), k < i → behindC l[k] l[i] = false → R = false) := Lib.hid fun k i hk hi hki h => by rw [← hR]; exact not_behind k i hk hi hki h
  have HN := Lib.hid hn
  have HH := Lib.hid h
  rw [hn] at hl ⊢
  rw [hR]
  clear hn h hR
  go_enter Try.func9, Try.ntmps9
  go_wp2_with fail
  go_loopw [3] (fun i wr => ∃ k : Nat, i = .int .i64 k ∧ k ≤ n ∧ Hid (OkUpto l k) ∧ Below w.heap.size w wr) (fun i _ => n - (intOf i).toNat)
  case atStart => exact ⟨0, rfl, by omega, Lib.hid (OkUpto.zero l), Below.refl _ _⟩
  case round =>
    obtain ⟨i, rfl, hi, HO, hb⟩ := hrel
    rename_i wr
    by_cases hlt : i < n
    · have hil : i < l.length := by rw [HN.out]; exact hlt
      obtain ⟨b, off, hp, hlb, hall⟩ := HH.out.opened (by omega)
      have hlb1 : b < wr.heap.size := Nat.lt_of_lt_of_le hlb hb.size
      have hat := (HH.out.later (w1 := w) (Below.refl _ _)).opened (by omega)
      clear hat
      have HALL : Hid (∀ j (hj : j < l.length) wx, Below w.heap.size w wx → HcAt wx b (off + j * 10) l[j]) := Lib.hid fun j hj wx hbx => by
        obtain ⟨g0, g1, g2, g3, g4, g5, g6, g7, g8, g9⟩ := hall j hj
        exact ⟨by rw [hbx.cell (p := ⟨b, _, none⟩) hlb]; exact g0, by rw [hbx.cell (p := ⟨b, _, none⟩) hlb]; exact g1, by rw [hbx.cell (p := ⟨b, _, none⟩) hlb]; exact g2, by rw [hbx.cell (p := ⟨b, _, none⟩) hlb]; exact g3, by rw [hbx.cell (p := ⟨b, _, none⟩) hlb]; exact g4, by rw [hbx.cell (p := ⟨b, _, none⟩) hlb]; exact g5, by rw [hbx.cell (p := ⟨b, _, none⟩) hlb]; exact g6, by rw [hbx.cell (p := ⟨b, _, none⟩) hlb]; exact g7, by rw [hbx.cell (p := ⟨b, _, none⟩) hlb]; exact g8, by rw [hbx.cell (p := ⟨b, _, none⟩) hlb]; exact g9⟩
      subst hp
      have HLB := Lib.hid hlb
      clear hlb hall
      obtain ⟨c, hc⟩ : ∃ c, l[i] = c := ⟨_, rfl⟩
      have hci := HALL.out i hil wr hb
      rw [hc] at hci
      obtain ⟨g0, g1, g2, g3, g4, g5, g6, g7, g8, g9⟩ := hci
      have HC := Lib.hid hc
      clear hc
      obtain ⟨m, hm⟩ : ∃ m, mayC c = m := ⟨_, rfl⟩
      have HM := Lib.hid fun w => rmay_any c w
      rw [hm] at HM
      have HMM := Lib.hid hm
      have HB := Lib.hid hb
      clear hm hb
      go_wp2_with fail
      refine (HM.out _).mono ?_
      rintro e wr1 ⟨rfl, hb1⟩
      have hb2 := HB.out.trans (hb1.mono HB.out.size)
      have HB1 := Lib.hid hb2
      clear hb1 hb2 hlb1 g0 g1 g2 g3 g4 g5 g6 g7 g8 g9
      cases m
      · have hr := hmay.out i hil (by rw [HC.out]; exact HMM.out)
        have HR := Lib.hid hr
        clear hr
        go_wp2_with fail
        go_ret
        exact ⟨by rw [HR.out]; rfl, HB1.out⟩
      · go_wp2_with fail
        go_loopw [5] (fun kk wr2 => ∃ k : Nat, kk = .int .i64 k ∧ k ≤ i ∧ Hid (∀ m (hm : m < l.length), m < k → behindC l[m] c = true) ∧ ∃ W, W = wr2 ∧ Below w.heap.size w W) (fun kk _ => i - (intOf kk).toNat)
        case atStart => exact ⟨0, rfl, by omega, Lib.hid (fun m _ h => absurd h (by omega)), _, rfl, HB1.out⟩
        case round =>
          obtain ⟨k, rfl, hk, HQ, wr2, rfl, hb⟩ := hrel
          by_cases hki : k < i
          · have hkl : k < l.length := by omega
            have hkn : k < n := by omega
            have hlb2 : b < wr2.heap.size := Nat.lt_of_lt_of_le HLB.out hb.size
            obtain ⟨d, hd⟩ : ∃ d, l[k] = d := ⟨_, rfl⟩
            have hci := HALL.out i hil wr2 hb
            have hdi := HALL.out k hkl wr2 hb
            rw [HC.out] at hci
            rw [hd] at hdi
            obtain ⟨g0, g1, g2, g3, g4, g5, g6, g7, g8, g9⟩ := hci
            obtain ⟨f0, f1, f2, f3, f4, f5, f6, f7, f8, f9⟩ := hdi
            have HA := Lib.hid fun w => rahead_any d c w
            have HD := Lib.hid hd
            have HB2 := Lib.hid hb
            have gy0 := fun (y : After wr2) => (y.cell hlb2).trans g0
            have gy1 := fun (y : After wr2) => (y.cell hlb2).trans g1
            have gy2 := fun (y : After wr2) => (y.cell hlb2).trans g2
            have gy3 := fun (y : After wr2) => (y.cell hlb2).trans g3
            have gy4 := fun (y : After wr2) => (y.cell hlb2).trans g4
            have gy5 := fun (y : After wr2) => (y.cell hlb2).trans g5
            have gy6 := fun (y : After wr2) => (y.cell hlb2).trans g6
            have gy7 := fun (y : After wr2) => (y.cell hlb2).trans g7
            have gy8 := fun (y : After wr2) => (y.cell hlb2).trans g8
            have gy9 := fun (y : After wr2) => (y.cell hlb2).trans g9
            have fy0 := fun (y : After wr2) => (y.cell hlb2).trans f0
            have fy1 := fun (y : After wr2) => (y.cell hlb2).trans f1
            have fy2 := fun (y : After wr2) => (y.cell hlb2).trans f2
            have fy3 := fun (y : After wr2) => (y.cell hlb2).trans f3
            have fy4 := fun (y : After wr2) => (y.cell hlb2).trans f4
            have fy5 := fun (y : After wr2) => (y.cell hlb2).trans f5
            have fy6 := fun (y : After wr2) => (y.cell hlb2).trans f6
            have fy7 := fun (y : After wr2) => (y.cell hlb2).trans f7
            have fy8 := fun (y : After wr2) => (y.cell hlb2).trans f8
            have fy9 := fun (y : After wr2) => (y.cell hlb2).trans f9
            clear hb hd g0 g1 g2 g3 g4 g5 g6 g7 g8 g9 f0 f1 f2 f3 f4 f5 f6 f7 f8 f9
            by_cases q1 : c.first ≤ d.first
            · have hbf : behindC d c = false := decide_eq_false (fun h => by have := h.1; omega)
              have hr := hbeh.out k i hkl hil hki (by rw [HD.out, HC.out]; exact hbf)
              have HR := Lib.hid hr
              have e1 : decide (c.first ≤ d.first) = true := by simp; exact q1
              clear hbf hr q1
              go_wp2_with fail
              refine wp_region_after (by kernel_rfl) (by kernel_rfl) ?_
              repeat (go_big_quiet_step (fail))
              refine wpQuiet_nil ?_
              rintro _ ⟨y, rfl⟩
              go_wp2_with fail
              go_ret
              exact ⟨by rw [HR.out]; rfl, HB2.out.trans (y.bel.mono HB2.out.size)⟩
            · have e1 : decide (c.first ≤ d.first) = false := by simp; omega
              by_cases q2 : d.who = c.who
              · have e2 : (d.who == c.who) = true := by simp; exact q2
                obtain ⟨ah, hah⟩ : ∃ a, decide (d.last < c.first) = a := ⟨_, rfl⟩
                rw [hah] at HA
                have hbv : Hid (behindC d c = ah) := by
                  refine Lib.hid ?_
                  rw [← hah]
                  unfold behindC
                  by_cases q3 : d.last < c.first
                  · rw [decide_eq_true q3]; exact decide_eq_true ⟨by omega, fun _ => q3⟩
                  · rw [decide_eq_false q3]; exact decide_eq_false (fun h => q3 (h.2 q2))
                clear q1 q2 hah
                cases ah
                · have hr := hbeh.out k i hkl hil hki (by rw [HD.out, HC.out]; exact hbv.out)
                  have HR := Lib.hid hr
                  clear hr
                  go_wp2_with fail
                  refine wp_region_after (by kernel_rfl) (by kernel_rfl) ?_
                  repeat (go_big_quiet_step ((go_at_call 17; exact calls_after (HA.out _))))
                  refine wpQuiet_nil ?_
                  rintro _ ⟨y, rfl⟩
                  go_wp2_with fail
                  go_ret
                  exact ⟨by rw [HR.out]; rfl, HB2.out.trans (y.bel.mono HB2.out.size)⟩
                · go_wp2_with fail
                  refine wp_region_after (by kernel_rfl) (by kernel_rfl) ?_
                  repeat (go_big_quiet_step ((go_at_call 17; exact calls_after (HA.out _))))
                  refine wpQuiet_nil ?_
                  rintro _ ⟨y, rfl⟩
                  go_wp2_with fail
                  go_roundw
                  case rel =>
                    refine ⟨k + 1, by simp, by omega, Lib.hid (fun m hm hmk => ?_), _, rfl, HB2.out.trans (y.bel.mono HB2.out.size)⟩
                    by_cases e : m = k
                    · subst e; rw [HD.out]; exact hbv.out
                    · exact HQ.out m hm (by omega)
                  case measure => simp [intOf]; omega
              · have e2 : (d.who == c.who) = false := by simp; exact q2
                have hbv : Hid (behindC d c = true) := Lib.hid (decide_eq_true ⟨by omega, fun h => absurd h q2⟩)
                clear q1 q2
                go_wp2_with fail
                refine wp_region_after (by kernel_rfl) (by kernel_rfl) ?_
                repeat (go_big_quiet_step (fail))
                refine wpQuiet_nil ?_
                rintro _ ⟨y, rfl⟩
                go_wp2_with fail
                go_roundw
                case rel =>
                  refine ⟨k + 1, by simp, by omega, Lib.hid (fun m hm hmk => ?_), _, rfl, HB2.out.trans (y.bel.mono HB2.out.size)⟩
                  by_cases e : m = k
                  · subst e; rw [HD.out]; exact hbv.out
                  · exact HQ.out m hm (by omega)
                case measure => simp [intOf]; omega
          · obtain rfl : k = i := by omega
            have hok := OkUpto.step HO.out hil (by rw [HC.out]; exact HMM.out) (by rw [HC.out]; exact HQ.out)
            have HOK := Lib.hid hok
            have HB2 := Lib.hid hb
            clear hok hb
            go_wp2_with fail
            go_roundw
            case rel => exact ⟨k + 1, by simp, by omega, HOK, HB2.out⟩
            case measure => simp [intOf]; omega
    · obtain rfl : i = n := by omega
      have hr := hyes.out HO.out
      have HR := Lib.hid hr
      have HB := Lib.hid hb
      clear hr hb
      go_wp2_with fail
      go_ret
      exact ⟨by rw [HR.out]; rfl, HB.out⟩
end Go.Proofs.Ytedgliaablokcaa
