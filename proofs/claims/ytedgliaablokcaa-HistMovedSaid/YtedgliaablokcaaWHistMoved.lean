/-
  HIST: the law HistMoved.
-/
import Derived.Test.YtedgliaablokcaaRows
import Derived.ProofKit
import Derived.Deep.QuietTactic
import Derived.BigQuiet
import Derived.LoopTactic
import Derived.Test.YtedgliaablokcaaHistI
import Derived.Test.YtedgliaablokcaaHistT
import Derived.Test.YtedgliaablokcaaTail
namespace Go.Proofs.Ytedgliaablokcaa
open Go.ChangeShapes Go.WideShapes Go.ChangeAt Go.RowKit

set_option maxRecDepth 100000 in
set_option maxHeartbeats 16000000 in
theorem walkHistMoved (a : Option Addr) (cap : Nat) (l : List CallV) (d p q : Int) (w : World) (h : Hcs w a l) (hm : l.length ≤ maxLen) (_hk : l.length ≤ cap) (_hn : a = none → cap = 0) (hd : 0 ≤ d ∧ d ≤ 4294967295) (hp : 0 ≤ p ∧ p ≤ 255) (hq : 0 ≤ q ∧ q ≤ 255) :
    Calls Try.prog 7 #[.agg #[.slice a l.length cap, .int .u32 d, .int .u8 p, .int .u8 q]] w fun e w' => e = .returned (.bool true) ∧ Below w.heap.size w w' := by
  obtain ⟨i0, hi0, hz0, hz1, hz2⟩ := info_parts call_info
  obtain ⟨n, hn⟩ : ∃ n, l.length = n := ⟨_, rfl⟩
  have HN := Lib.hid hn
  have HH := Lib.hid fun wx (hb : Below w.heap.size w wx) => h.later hb
  rw [hn] at hm ⊢
  unfold maxLen at hm
  clear hn h
  obtain ⟨R, hR⟩ : ∃ R, rightB l = R := ⟨_, rfl⟩
  have HR := Lib.hid fun c wx (hb : Below w.heap.size w wx) (hle : n ≤ 1000000) => rright_n l n HN.out R hR a c wx (HH.out wx hb) hle
  have HRR := Lib.hid hR
  clear hR
  go_enter Try.func7, Try.ntmps7
  go_wp2_with fail
  refine (shown_any _).mono ?_
  rintro e w1 ⟨rfl, hb1⟩
  have hB1 : Below w.heap.size w w1 := (below_alloc1 w _).trans (hb1.mono (below_alloc1 w _).size)
  by_cases hbig : 40 < n
  · have h40 : decide (40 < (n : Int)) = true := by simp; omega
    go_wp2_with fail
    go_ret
    exact ⟨rfl, hB1⟩
  have h40 : decide (40 < (n : Int)) = false := by simp; omega
  by_cases hn0 : n = 0
  · have h00 : ((n : Int) == 0) = true := by simp; omega
    go_wp2_with fail
    go_ret
    exact ⟨rfl, hB1⟩
  have h00 : ((n : Int) == 0) = false := by simp; omega
  have hnz : (n : Int) ≠ 0 := by omega
  go_wp2_with fail
  refine (HR.out _ _ hB1 (by omega)).mono ?_
  rintro e w2 ⟨rfl, hb2⟩
  have hB2 := hB1.trans (hb2.mono hB1.size)
  cases R
  · go_wp2_with fail
    go_ret
    exact ⟨rfl, hB2⟩
  clear hB1 hb1 hb2
  obtain ⟨i1, hi1⟩ : ∃ i : Nat, (i : Int) = p % (n : Int) := ⟨(p % (n : Int)).toNat, Int.toNat_of_nonneg (Int.emod_nonneg _ (by omega))⟩
  have li1 : i1 < n := by have := Int.emod_lt_of_pos p (show (0 : Int) < n by omega); omega
  have mi1 : p % (n : Int) = (i1 : Int) := hi1.symm
  have ti1 : Int.tmod p (n : Int) = (i1 : Int) := by rw [Int.tmod_eq_emod_of_nonneg hp.1]; exact mi1
  clear hi1
  obtain ⟨i2, hi2⟩ : ∃ i : Nat, (i : Int) = q % (n : Int) := ⟨(q % (n : Int)).toNat, Int.toNat_of_nonneg (Int.emod_nonneg _ (by omega))⟩
  have li2 : i2 < n := by have := Int.emod_lt_of_pos q (show (0 : Int) < n by omega); omega
  have mi2 : q % (n : Int) = (i2 : Int) := hi2.symm
  have ti2 : Int.tmod q (n : Int) = (i2 : Int) := by rw [Int.tmod_eq_emod_of_nonneg hq.1]; exact mi2
  clear hi2
  obtain ⟨b, off, hp, hlb, hall⟩ := (HH.out w (Below.refl _ _)).opened (by rw [HN.out]; omega)
  have HALL : Hid (∀ j (hj : j < l.length) wx, Below w.heap.size w wx → HcAt wx b (off + j * 10) l[j]) := Lib.hid fun j hj wx hbx => by
    obtain ⟨g0, g1, g2, g3, g4, g5, g6, g7, g8, g9⟩ := hall j hj
    exact ⟨by rw [hbx.cell (p := ⟨b, _, none⟩) hlb]; exact g0, by rw [hbx.cell (p := ⟨b, _, none⟩) hlb]; exact g1, by rw [hbx.cell (p := ⟨b, _, none⟩) hlb]; exact g2, by rw [hbx.cell (p := ⟨b, _, none⟩) hlb]; exact g3, by rw [hbx.cell (p := ⟨b, _, none⟩) hlb]; exact g4, by rw [hbx.cell (p := ⟨b, _, none⟩) hlb]; exact g5, by rw [hbx.cell (p := ⟨b, _, none⟩) hlb]; exact g6, by rw [hbx.cell (p := ⟨b, _, none⟩) hlb]; exact g7, by rw [hbx.cell (p := ⟨b, _, none⟩) hlb]; exact g8, by rw [hbx.cell (p := ⟨b, _, none⟩) hlb]; exact g9⟩
  have HLB := Lib.hid hlb
  clear hall hlb
  subst hp
  obtain ⟨nk, hnk⟩ : ∃ k, k = n - 1 := ⟨_, rfl⟩
  have e1 : (n : Int) - 1 = (nk : Int) := by omega
  have lnk : nk < n := by omega
  have hat := HALL.out nk (by rw [HN.out]; exact lnk) w2 hB2
  obtain ⟨z, hz⟩ : ∃ z, (l[nk]'(by rw [HN.out]; exact lnk)).first = z := ⟨_, rfl⟩
  have g7 := hat.2.2.2.2.2.2.2.1
  rw [hz] at g7
  have HZ := Lib.hid hz
  clear hat hz hnk
  by_cases hbig2 : 1152921504606846976 < z
  · have e2 : decide (1152921504606846976 < z) = true := by simp; exact hbig2
    go_wp2_with fail
    go_ret
    exact ⟨rfl, hB2⟩
  have e2 : decide (1152921504606846976 < z) = false := by simp; omega
  have HB2 := Lib.hid hB2
  clear hB2
  go_wp2_with fail
  clear g7 e1 e2
  go_loopw [9, 10] (fun v ii wr => ∃ i : Nat, ii = .int .i64 i ∧ i ≤ n ∧ ∃ W', W' = wr ∧ W'.ownsRow w.heap.size 30 10 v i (hcV ((l.take i).map (mv d))) ∧ Below w.heap.size w W') (fun _ ii _ => n - (intOf ii).toNat)
  case atStart => exact ⟨0, rfl, by omega, _, rfl, World.ownsRow_nil _ _ _ _, HB2.out⟩
  case round =>
    obtain ⟨i, rfl, hi, wr, rfl, hown, hb⟩ := hrel
    obtain ⟨qg, cg, rfl⟩ := own_slice hown
    by_cases hlt : i < n
    · have hil : i < l.length := by rw [HN.out]; exact hlt
      obtain ⟨c, hc⟩ : ∃ c, l[i] = c := ⟨_, rfl⟩
      obtain ⟨xw, xk, xo, xa, xb, xv, xi, xf, xl, xp⟩ := c
      have hat := HALL.out i hil wr hb
      rw [hc] at hat
      unfold HcAt at hat
      dsimp only at hat
      obtain ⟨g0, g1, g2, g3, g4, g5, g6, g7, g8, g9⟩ := hat
      have hm := right_may HRR.out (List.getElem_mem hil)
      rw [hc] at hm
      have hmc := mayC_true hm
      dsimp only at hmc
      have hsn : (l.take (i + 1)).map (mv d) = (l.take i).map (mv d) ++ [mv d ⟨xw, xk, xo, xa, xb, xv, xi, xf, xl, xp⟩] := by
        rw [List.take_succ_eq_append_getElem hil, hc, List.map_append]; rfl
      have HC := Lib.hid hc
      have HSN := Lib.hid hsn
      have HB := Lib.hid hb
      have HO := Lib.hid hown
      have HM := Lib.hid hm
      clear hc hsn hb hown hm
      by_cases hl2 : 1152921504606846976 < xl
      · have e3 : decide (1152921504606846976 < xl) = true := by simp; exact hl2
        go_wp2_with fail
        go_ret
        exact ⟨rfl, HB.out.alloc HB.out.size _⟩
      have e3 : decide (1152921504606846976 < xl) = false := by simp; omega
      have hlw : b < wr.heap.size := Nat.lt_of_lt_of_le HLB.out HB.out.size
      obtain ⟨h1, h2, h3, h4, h5, h6, h7, h8, h9⟩ := hmc
      by_cases hp0 : 0 ≤ xp
      · have e4 : decide (0 ≤ xp) = true := by simp; omega
        obtain ⟨W2, hW2⟩ : ∃ W, W = (wr.alloc (Obj.cells #[.int .i64 xw, .int .i64 xk, .int .i64 xo, .int .i64 xa, .int .i64 xb, .int .i64 xv, .bool xi, .int .i64 (xf + d), .int .i64 (xl + d), .int .i64 (xp + d)] 30)).alloc (Obj.cells #[.int .i64 xw, .int .i64 xk, .int .i64 xo, .int .i64 xa, .int .i64 xb, .int .i64 xv, .bool xi, .int .i64 (xf + d), .int .i64 (xl + d), .int .i64 (xp + d)] 30) := ⟨_, rfl⟩
        have KN : Blk W2 (wr.heap.size + 1) 30 #[.int .i64 xw, .int .i64 xk, .int .i64 xo, .int .i64 xa, .int .i64 xb, .int .i64 xv, .bool xi, .int .i64 (xf + d), .int .i64 (xl + d), .int .i64 (xp + d)] := by rw [hW2]; exact Blk.made1 wr _ _ _
        have hb12 : Below wr.heap.size wr W2 := by rw [hW2]; exact below_alloc2 wr _ _
        have hB2 := HB.out.trans (hb12.mono HB.out.size)
        have hO2 := own_below HO.out hb12
        have hnews : ∀ j u, (CallV.cells (mv d ⟨xw, xk, xo, xa, xb, xv, xi, xf, xl, xp⟩))[j]? = some u → W2.cell? ((⟨wr.heap.size + 1, 0, none⟩ : Addr).add j) = some u := by
          intro j u hu
          rw [addr_add, Nat.zero_add, KN.cell]
          rw [show mv d ⟨xw, xk, xo, xa, xb, xv, xi, xf, xl, xp⟩ = ⟨xw, xk, xo, xa, xb, xv, xi, xf + d, xl + d, xp + d⟩ by unfold mv; simp only; rw [if_pos hp0]] at hu
          simpa [CallV.cells] using hu
        have hlow : Hid (∀ i', (Value.slice qg i cg).ownBlock = some i' → w.heap.size ≤ i') := Lib.hid fun i' hi' => (hO2.lt i' hi').1
        have HW2 := Lib.hid hW2
        have HO2 := Lib.hid hO2
        have HBB := Lib.hid hB2
        have HNW := Lib.hid hnews
        clear hW2 KN hb12 hB2 hO2 hnews
        go_wp2_with (at_builtin; rw [← HW2.out]; refine wpList_append_own W2 rfl (.tmp 82) (.tmp 84) _ rfl w.heap.size 30 i0 _ 10 80 Try.underlying22 hi0 hz0 hz1 hz2 rfl (by omega) _ i _ rfl HO2.out ⟨wr.heap.size + 1, 0, none⟩ 1 1 (CallV.cells (mv d ⟨xw, xk, xo, xa, xb, xv, xi, xf, xl, xp⟩)) rfl rfl HNW.out (by simp [mv, CallV.cells, Value.oneCell']) (by unfold maxLen; omega) (by omega) HBB.out.size ?_; intro v4 w4 hown4 hg4 _)
        have hB4 : Below w.heap.size w w4 := below_gb HBB.out hg4 HBB.out.size hlow.out
        have hown5 : w4.ownsRow w.heap.size 30 10 v4 (i + 1) (hcV ((l.take (i + 1)).map (mv d))) := by
          rw [HSN.out, hcV_snoc]; exact hown4
        have HB4 := Lib.hid hB4
        have HO5 := Lib.hid hown5
        clear hB4 hown5 hown4 hg4
        go_wp2_with fail
        go_roundw
        case rel => exact ⟨i + 1, by simp, by omega, _, rfl, HO5.out, HB4.out⟩
        case measure => simp [intOf]; omega
      · have e4 : decide (0 ≤ xp) = false := by simp; omega
        obtain ⟨W2, hW2⟩ : ∃ W, W = (wr.alloc (Obj.cells #[.int .i64 xw, .int .i64 xk, .int .i64 xo, .int .i64 xa, .int .i64 xb, .int .i64 xv, .bool xi, .int .i64 (xf + d), .int .i64 (xl + d), .int .i64 xp] 30)).alloc (Obj.cells #[.int .i64 xw, .int .i64 xk, .int .i64 xo, .int .i64 xa, .int .i64 xb, .int .i64 xv, .bool xi, .int .i64 (xf + d), .int .i64 (xl + d), .int .i64 xp] 30) := ⟨_, rfl⟩
        have KN : Blk W2 (wr.heap.size + 1) 30 #[.int .i64 xw, .int .i64 xk, .int .i64 xo, .int .i64 xa, .int .i64 xb, .int .i64 xv, .bool xi, .int .i64 (xf + d), .int .i64 (xl + d), .int .i64 xp] := by rw [hW2]; exact Blk.made1 wr _ _ _
        have hb12 : Below wr.heap.size wr W2 := by rw [hW2]; exact below_alloc2 wr _ _
        have hB2 := HB.out.trans (hb12.mono HB.out.size)
        have hO2 := own_below HO.out hb12
        have hnews : ∀ j u, (CallV.cells (mv d ⟨xw, xk, xo, xa, xb, xv, xi, xf, xl, xp⟩))[j]? = some u → W2.cell? ((⟨wr.heap.size + 1, 0, none⟩ : Addr).add j) = some u := by
          intro j u hu
          rw [addr_add, Nat.zero_add, KN.cell]
          rw [show mv d ⟨xw, xk, xo, xa, xb, xv, xi, xf, xl, xp⟩ = ⟨xw, xk, xo, xa, xb, xv, xi, xf + d, xl + d, xp⟩ by unfold mv; simp only; rw [if_neg (by omega)]] at hu
          simpa [CallV.cells] using hu
        have hlow : Hid (∀ i', (Value.slice qg i cg).ownBlock = some i' → w.heap.size ≤ i') := Lib.hid fun i' hi' => (hO2.lt i' hi').1
        have HW2 := Lib.hid hW2
        have HO2 := Lib.hid hO2
        have HBB := Lib.hid hB2
        have HNW := Lib.hid hnews
        clear hW2 KN hb12 hB2 hO2 hnews
        go_wp2_with (at_builtin; rw [← HW2.out]; refine wpList_append_own W2 rfl (.tmp 82) (.tmp 84) _ rfl w.heap.size 30 i0 _ 10 80 Try.underlying22 hi0 hz0 hz1 hz2 rfl (by omega) _ i _ rfl HO2.out ⟨wr.heap.size + 1, 0, none⟩ 1 1 (CallV.cells (mv d ⟨xw, xk, xo, xa, xb, xv, xi, xf, xl, xp⟩)) rfl rfl HNW.out (by simp [mv, CallV.cells, Value.oneCell']) (by unfold maxLen; omega) (by omega) HBB.out.size ?_; intro v4 w4 hown4 hg4 _)
        have hB4 : Below w.heap.size w w4 := below_gb HBB.out hg4 HBB.out.size hlow.out
        have hown5 : w4.ownsRow w.heap.size 30 10 v4 (i + 1) (hcV ((l.take (i + 1)).map (mv d))) := by
          rw [HSN.out, hcV_snoc]; exact hown4
        have HB4 := Lib.hid hB4
        have HO5 := Lib.hid hown5
        clear hB4 hown5 hown4 hg4
        go_wp2_with fail
        go_roundw
        case rel => exact ⟨i + 1, by simp, by omega, _, rfl, HO5.out, HB4.out⟩
        case measure => simp [intOf]; omega
    · obtain rfl : i = n := by omega
      have hdi : decide ((i : Int) < i) = false := by simp
      rw [List.take_of_length_le (by rw [HN.out]; omega)] at hown
      have hG := Hcs.of_own hown
      have hb' := hb
      obtain ⟨A, hA⟩ : ∃ c, l[i1]'(by rw [HN.out]; exact li1) = c := ⟨_, rfl⟩
      obtain ⟨B, hB⟩ : ∃ c, l[i2]'(by rw [HN.out]; exact li2) = c := ⟨_, rfl⟩
      have lg : (l.map (mv d)).length = i := by rw [List.length_map, HN.out]
      obtain ⟨bg, og, hpg, hlg, hgall⟩ := hG.opened (by rw [lg]; omega)
      have ga := hgall i1 (by rw [lg]; exact li1)
      have gb := hgall i2 (by rw [lg]; exact li2)
      rw [List.getElem_map, hA] at ga
      rw [List.getElem_map, hB] at gb
      have fa := HALL.out i1 (by rw [HN.out]; exact li1) wr hb
      have fb := HALL.out i2 (by rw [HN.out]; exact li2) wr hb
      rw [hA] at fa
      rw [hB] at fb
      have hlb : b < wr.heap.size := Nat.lt_of_lt_of_le HLB.out hb.size
      obtain ⟨A2, hA2⟩ : ∃ c, mv d A = c := ⟨_, rfl⟩
      obtain ⟨B2, hB2⟩ : ∃ c, mv d B = c := ⟨_, rfl⟩
      rw [hA2] at ga
      rw [hB2] at gb
      obtain ⟨ab, hab⟩ : ∃ x, aheadB A B = x := ⟨_, rfl⟩
      have hab2 : aheadB A2 B2 = ab := by rw [← hA2, ← hB2, mv_ahead, hab]
      have H1 := Lib.hid fun wx => ahead_v A B ab hab wx
      have H2 := Lib.hid fun wx => ahead_v A2 B2 ab hab2 wx
      have HRG := Lib.hid fun (x : After wr) => right_n (l.map (mv d)) i lg true (mv_right hd.1 HRR.out) qg cg x.w (hG.later x.bel) (by omega)
      have HB := Lib.hid hb
      clear hA hB hA2 hB2 hab hab2 hb' hown hG hgall hb lg
      subst hpg
      obtain ⟨ga0, ga1, ga2, ga3, ga4, ga5, ga6, ga7, ga8, ga9⟩ := ga
      obtain ⟨gb0, gb1, gb2, gb3, gb4, gb5, gb6, gb7, gb8, gb9⟩ := gb
      obtain ⟨fa0, fa1, fa2, fa3, fa4, fa5, fa6, fa7, fa8, fa9⟩ := fa
      obtain ⟨fb0, fb1, fb2, fb3, fb4, fb5, fb6, fb7, fb8, fb9⟩ := fb
      have yga0 := fun (y : After wr) => (y.cell hlg).trans ga0
      have yga1 := fun (y : After wr) => (y.cell hlg).trans ga1
      have yga2 := fun (y : After wr) => (y.cell hlg).trans ga2
      have yga3 := fun (y : After wr) => (y.cell hlg).trans ga3
      have yga4 := fun (y : After wr) => (y.cell hlg).trans ga4
      have yga5 := fun (y : After wr) => (y.cell hlg).trans ga5
      have yga6 := fun (y : After wr) => (y.cell hlg).trans ga6
      have yga7 := fun (y : After wr) => (y.cell hlg).trans ga7
      have yga8 := fun (y : After wr) => (y.cell hlg).trans ga8
      have yga9 := fun (y : After wr) => (y.cell hlg).trans ga9
      have ygb0 := fun (y : After wr) => (y.cell hlg).trans gb0
      have ygb1 := fun (y : After wr) => (y.cell hlg).trans gb1
      have ygb2 := fun (y : After wr) => (y.cell hlg).trans gb2
      have ygb3 := fun (y : After wr) => (y.cell hlg).trans gb3
      have ygb4 := fun (y : After wr) => (y.cell hlg).trans gb4
      have ygb5 := fun (y : After wr) => (y.cell hlg).trans gb5
      have ygb6 := fun (y : After wr) => (y.cell hlg).trans gb6
      have ygb7 := fun (y : After wr) => (y.cell hlg).trans gb7
      have ygb8 := fun (y : After wr) => (y.cell hlg).trans gb8
      have ygb9 := fun (y : After wr) => (y.cell hlg).trans gb9
      have yfa0 := fun (y : After wr) => (y.cell hlb).trans fa0
      have yfa1 := fun (y : After wr) => (y.cell hlb).trans fa1
      have yfa2 := fun (y : After wr) => (y.cell hlb).trans fa2
      have yfa3 := fun (y : After wr) => (y.cell hlb).trans fa3
      have yfa4 := fun (y : After wr) => (y.cell hlb).trans fa4
      have yfa5 := fun (y : After wr) => (y.cell hlb).trans fa5
      have yfa6 := fun (y : After wr) => (y.cell hlb).trans fa6
      have yfa7 := fun (y : After wr) => (y.cell hlb).trans fa7
      have yfa8 := fun (y : After wr) => (y.cell hlb).trans fa8
      have yfa9 := fun (y : After wr) => (y.cell hlb).trans fa9
      have yfb0 := fun (y : After wr) => (y.cell hlb).trans fb0
      have yfb1 := fun (y : After wr) => (y.cell hlb).trans fb1
      have yfb2 := fun (y : After wr) => (y.cell hlb).trans fb2
      have yfb3 := fun (y : After wr) => (y.cell hlb).trans fb3
      have yfb4 := fun (y : After wr) => (y.cell hlb).trans fb4
      have yfb5 := fun (y : After wr) => (y.cell hlb).trans fb5
      have yfb6 := fun (y : After wr) => (y.cell hlb).trans fb6
      have yfb7 := fun (y : After wr) => (y.cell hlb).trans fb7
      have yfb8 := fun (y : After wr) => (y.cell hlb).trans fb8
      have yfb9 := fun (y : After wr) => (y.cell hlb).trans fb9
      clear ga0 ga1 ga2 ga3 ga4 ga5 ga6 ga7 ga8 ga9 gb0 gb1 gb2 gb3 gb4 gb5 gb6 gb7 gb8 gb9 fa0 fa1 fa2 fa3 fa4 fa5 fa6 fa7 fa8 fa9 fb0 fb1 fb2 fb3 fb4 fb5 fb6 fb7 fb8 fb9
      go_wp2_with fail
      refine wp_region_after (by kernel_rfl) (by kernel_rfl) ?_
      repeat (go_big_quiet_step (first
        | (go_at_call 14; exact calls_after (HRG.out _))
        | (go_at_call 10; with_reducible exact calls_after (H1.out _))
        | (go_at_call 10; with_reducible exact calls_after (H2.out _))))
      refine wpQuiet_nil ?_
      rintro _ ⟨y, rfl⟩
      go_wp2_with fail
      go_ret
      exact ⟨by simp, HB.out.trans (y.bel.mono HB.out.size)⟩
end Go.Proofs.Ytedgliaablokcaa
