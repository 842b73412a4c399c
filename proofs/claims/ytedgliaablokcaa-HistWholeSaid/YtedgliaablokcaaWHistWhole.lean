/-
  HIST: the law HistWhole.
-/
import Derived.Test.YtedgliaablokcaaRows
import Derived.ProofKit
import Derived.Deep.QuietTactic
import Derived.BigQuiet
import Derived.LoopTactic
import Derived.Test.YtedgliaablokcaaHistI
import Derived.Test.YtedgliaablokcaaHistT
namespace Go.Proofs.Ytedgliaablokcaa
open Go.ChangeShapes Go.WideShapes Go.ChangeAt Go.RowKit

set_option maxRecDepth 100000 in
set_option maxHeartbeats 16000000 in
theorem walkHistWhole (a : Option Addr) (cap : Nat) (l : List CallV) (w : World) (h : Hcs w a l) (hm : l.length ≤ maxLen) (_hk : l.length ≤ cap) (_hn : a = none → cap = 0) :
    Calls Try.prog 5 #[.slice a l.length cap] w fun e w' => e = .returned (.bool true) ∧ Below w.heap.size w w' := by
  obtain ⟨n, hn⟩ : ∃ n, l.length = n := ⟨_, rfl⟩
  have HN := Lib.hid hn
  have HH := Lib.hid fun wx (hb : Below w.heap.size w wx) => h.later hb
  rw [hn] at hm ⊢
  unfold maxLen at hm
  clear hn h
  obtain ⟨R, hR⟩ : ∃ R, rightB l = R := ⟨_, rfl⟩
  have HR := Lib.hid fun c wx (hb : Below w.heap.size w wx) (hle : n ≤ 1000000) => rright_n l n HN.out R hR a c wx (HH.out wx hb) hle
  have HRR := Lib.hid hR
  clear hR
  have HO := Lib.hid fun k o wx (hb : Below w.heap.size w wx) (hle : n ≤ 1000000) => hof_n l n HN.out a cap k o wx (HH.out wx hb) hle
  have HS := Lib.hid fun who wx (hb : Below w.heap.size w wx) (hle : n ≤ 1000000) => hseat_n l n HN.out a cap who wx (HH.out wx hb) hle
  have HU := Lib.hid fun step wx (hb : Below w.heap.size w wx) (hle : n ≤ 1000000) => hupto_n l n HN.out a cap step wx (HH.out wx hb) hle
  go_enter Try.func5, Try.ntmps5
  go_wp2_with fail
  refine (shown_any _).mono ?_
  rintro e w1 ⟨rfl, hb1⟩
  have hB1 : Below w.heap.size w w1 := hb1
  by_cases hbig : 40 < n
  · have h40 : decide (40 < (n : Int)) = true := by simp; omega
    go_wp2_with fail
    go_ret
    exact ⟨rfl, hB1⟩
  have h40 : decide (40 < (n : Int)) = false := by simp; omega
  go_wp2_with fail
  refine (HR.out _ _ hB1 (by omega)).mono ?_
  rintro e w2 ⟨rfl, hb2⟩
  have hB2 := hB1.trans (hb2.mono hB1.size)
  cases R
  · go_wp2_with fail
    go_ret
    exact ⟨rfl, hB2⟩
  clear hB1 hb1 hb2
  go_wp2_with fail
  go_loopw [4, 5] (fun v kk wr => ∃ (k s : Nat), kk = .int .i64 k ∧ v = .int .i64 s ∧ 1 ≤ k ∧ k ≤ 4 ∧ Hid (s = cO l ((k : Int) * 8)) ∧ ∃ W', W' = wr ∧ Below w.heap.size w W') (fun _ kk _ => 4 - (intOf kk).toNat)
  case atStart => exact ⟨1, 0, rfl, rfl, by omega, by omega, Lib.hid (cO_start HRR.out).symm, _, rfl, hB2⟩
  case round =>
    clear hB2
    obtain ⟨k, s, rfl, rfl, hk1, hk4, HS1, wr, rfl, hb⟩ := hrel
    by_cases hlt : k < 4
    · have hk3 : (k : Int) ≤ 3 := by omega
      go_wp2_with fail
      go_loopw [4, 6] (fun v oo wr2 => ∃ (o s : Nat), oo = .int .i64 o ∧ v = .int .i64 s ∧ o ≤ 8 ∧ Hid (s = cO l ((k : Int) * 8 + o)) ∧ ∃ W', W' = wr2 ∧ Below w.heap.size w W') (fun _ oo _ => 8 - (intOf oo).toNat)
      case atStart => exact ⟨0, s, rfl, rfl, by omega, Lib.hid (by rw [HS1.out]; simp), _, rfl, hb⟩
      case round =>
        clear hb
        obtain ⟨o, s2, rfl, rfl, ho, HS2, wr2, rfl, hb⟩ := hrel
        by_cases hlo : o < 8
        · have ho8 : (o : Int) < 8 := by omega
          obtain ⟨m, hm⟩ : ∃ m, (l.filter fun c => (kindOf c.kind == (k : Int)) && (c.obj == (o : Int))).length = m := ⟨_, rfl⟩
          have hst := cO_step HRR.out (k : Int) (o : Int) (by omega)
          rw [hm] at hst
          have hle1 : s2 ≤ n := by rw [HS2.out, ← HN.out]; exact cO_le _ _
          have hle2 : m ≤ n := by rw [← hm]; exact filter_le _ _ _ HN.out
          have HM := Lib.hid hm
          have HST := Lib.hid hst
          have HB := Lib.hid hb
          clear hm hst
          go_wp2_with fail
          refine (HO.out (k : Int) (o : Int) _ hb (by omega)).mono ?_
          rintro e w3 hp
          obtain ⟨p3, c3, rfl, -, hb3⟩ := hp.at rfl HM.out
          have HB3 := Lib.hid (HB.out.trans (hb3.mono HB.out.size))
          clear hb hb3
          go_wp2_with fail
          go_roundw
          case rel => exact ⟨o + 1, s2 + m, by simp, by simp, by omega, Lib.hid (by rw [show ((k : Int) * 8 + ((o + 1 : Nat) : Int)) = (k : Int) * 8 + o + 1 by simp; omega, HST.out, HS2.out]), _, rfl, HB3.out⟩
          case measure => simp [intOf]; omega
        · have ho8 : decide ((o : Int) < 8) = false := by simp; omega
          have ho9 : o = 8 := by omega
          have HB := Lib.hid hb
          have HO9 := Lib.hid ho9
          clear hb ho9
          go_wp2_with fail
          go_roundw
          case rel => exact ⟨k + 1, s2, by simp, rfl, by omega, by omega, Lib.hid (by rw [HS2.out, HO9.out]; congr 1; simp; omega), _, rfl, HB.out⟩
          case measure => simp [intOf]; omega
    · have hk3 : decide ((k : Int) ≤ 3) = false := by simp; omega
      have hsn : s = n := by
        rw [HS1.out, ← HN.out, ← cO_end HRR.out]
        congr 1
        have : k = 4 := by omega
        rw [this]; rfl
      subst hsn
      have HNN := HN
      go_wp2_with fail
      go_loopw [7, 9] (fun v ww wr2 => ∃ (x s : Nat), ww = .int .i64 x ∧ v = .int .i64 s ∧ x ≤ 8 ∧ Hid (s = cS l (x : Int)) ∧ ∃ W', W' = wr2 ∧ Below w.heap.size w W') (fun _ ww _ => 8 - (intOf ww).toNat)
      case atStart => exact ⟨0, 0, rfl, rfl, by omega, Lib.hid (cS_start HRR.out).symm, _, rfl, hb⟩
      case round =>
        clear hb
        obtain ⟨x, s2, rfl, rfl, hx, HS2, wr2, rfl, hb⟩ := hrel
        by_cases hlx : x < 8
        · have hx8 : (x : Int) < 8 := by omega
          obtain ⟨m, hm⟩ : ∃ m, (l.filter fun c => c.who == (x : Int)).length = m := ⟨_, rfl⟩
          have hst := cS_step l (x : Int)
          rw [hm] at hst
          have hle1 : s2 ≤ s := by rw [HS2.out, ← HN.out]; exact cS_le _ _
          have hle2 : m ≤ s := by rw [← hm]; exact filter_le _ _ _ HN.out
          have HM := Lib.hid hm
          have HST := Lib.hid hst
          have HB := Lib.hid hb
          clear hm hst
          go_wp2_with fail
          refine (HS.out (x : Int) _ hb (by omega)).mono ?_
          rintro e w3 hp
          obtain ⟨p3, c3, rfl, -, hb3⟩ := hp.at rfl HM.out
          have HB3 := Lib.hid (HB.out.trans (hb3.mono HB.out.size))
          clear hb hb3
          go_wp2_with fail
          go_roundw
          case rel => exact ⟨x + 1, s2 + m, by simp, by simp, by omega, Lib.hid (by rw [show ((x + 1 : Nat) : Int) = (x : Int) + 1 by simp, HST.out, HS2.out]), _, rfl, HB3.out⟩
          case measure => simp [intOf]; omega
        · have hx8 : decide ((x : Int) < 8) = false := by simp; omega
          have hsn : s2 = s := by
            rw [HS2.out, ← HN.out, ← cS_end HRR.out]
            congr 1
            have : x = 8 := by omega
            rw [this]; rfl
          subst hsn
          have HB0 := Lib.hid hb
          clear hb
          go_wp2_with fail
          go_loopw [8, 10] (fun v ii wr3 => ∃ (i : Nat) (x : Int), ii = .int .i64 i ∧ v = .int .i64 x ∧ i ≤ s2 ∧ Hid (∀ j (hj : j < l.length), j < i → l[j].last ≤ x) ∧ wr3 = wr2) (fun _ ii _ => s2 - (intOf ii).toNat)
          case atStart => exact ⟨0, 0, rfl, rfl, by omega, Lib.hid (fun j _ h => absurd h (by omega)), rfl⟩
          case round =>
            obtain ⟨i, y, rfl, rfl, hi, HI, rfl⟩ := hrel
            by_cases hli : i < s2
            · have hil : i < l.length := by rw [HN.out]; exact hli
              obtain ⟨b, off, rfl, hlb, hat⟩ := (HH.out _ HB0.out).at_ i hil
              obtain ⟨c, hc⟩ : ∃ c, l[i] = c := ⟨_, rfl⟩
              rw [hc] at hat
              have g8 := hat.2.2.2.2.2.2.2.2.1
              have HC := Lib.hid hc
              clear hat hc
              by_cases hmx : y < c.last
              · have e1 : (if y < c.last then c.last else y) = c.last := by rw [if_pos hmx]
                have e2 : decide (y < c.last) = true := by simp; exact hmx
                have HMX := Lib.hid hmx
                clear hmx
                go_wp2_with fail
                go_roundw
                case rel =>
                  refine ⟨i + 1, c.last, by simp, rfl, by omega, Lib.hid (fun j hj hji => ?_), by trivial⟩
                  by_cases e : j = i
                  · subst e; rw [HC.out]; exact Int.le_refl _
                  · have := HI.out j hj (by omega)
                    have := HMX.out
                    omega
                case measure => simp [intOf]; omega
              · have e1 : (if y < c.last then c.last else y) = y := by rw [if_neg hmx]
                have e2 : decide (y < c.last) = false := by simp; omega
                have HMX := Lib.hid hmx
                clear hmx
                go_wp2_with fail
                go_roundw
                case rel =>
                  refine ⟨i + 1, y, by simp, rfl, by omega, Lib.hid (fun j hj hji => ?_), by trivial⟩
                  by_cases e : j = i
                  · subst e; rw [HC.out]; have := HMX.out; omega
                  · exact HI.out j hj (by omega)
                case measure => simp [intOf]; omega
            · have HUA := Lib.hid (upto_all l y (fun j hj => HI.out j hj (by rw [HN.out] at hj; omega)))
              have e0 : ((s2 : Int) == s2) = true := by simp
              go_wp2_with fail
              refine (HU.out y _ HB0.out (by omega)).mono ?_
              rintro e w3 hp
              obtain ⟨p3, c3, rfl, q3, hb3⟩ := hp.at HUA.out HN.out
              have hB3 := HB0.out.trans (hb3.mono HB0.out.size)
              go_wp2_with fail
              refine (same_n _ _ _ _ HN.out HN.out true (decide_eq_true rfl) _ _ _ _ _ q3 (HH.out _ hB3) (by omega) (by omega)).mono ?_
              rintro e w4 ⟨rfl, hb4⟩
              have hB4 := hB3.trans (hb4.mono hB3.size)
              go_wp2_with fail
              refine (HO.out 0 0 _ hB4 (by omega)).mono ?_
              rintro e w5 hp
              obtain ⟨p5, c5, rfl, -, hb5⟩ := hp.at (of_none HRR.out) (m := 0) rfl
              have hB5 := hB4.trans (hb5.mono hB4.size)
              go_wp2_with fail
              refine (HU.out (-1) _ hB5 (by omega)).mono ?_
              rintro e w6 hp
              obtain ⟨p6, c6, rfl, -, hb6⟩ := hp.at (upto_none HRR.out) (m := 0) rfl
              have hB6 := hB5.trans (hb6.mono hB5.size)
              go_wp2_with fail
              go_ret
              exact ⟨rfl, hB6⟩
end Go.Proofs.Ytedgliaablokcaa
