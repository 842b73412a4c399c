/-
  RING: fits, Moves.
-/
import Derived.Test.YtabgpoagnofifaaRows
import Derived.ProofKit
import Derived.OwnWalk
import Derived.LoopTactic
import Derived.Test.YtabgpoagnofifaaLayE
namespace Go.Proofs.Ytabgpoagnofifaa
open Go.ChangeShapes Go.WideShapes Go.ChangeAt Go.RowKit

def fitsP (r top bottom : Int) : Bool := decide (0 ≤ top) && (decide (top ≤ bottom) && decide (bottom - top ≤ sizeP r))

theorem fits_any (r top bottom : Int) (ht : -9223372036854775808 ≤ top ∧ top ≤ 9223372036854775807) (hb : -9223372036854775808 ≤ bottom ∧ bottom ≤ 9223372036854775807) (w : World) :
    Calls Try.prog 25 #[.int .i64 r, .int .i64 top, .int .i64 bottom] w fun e w' => e = .returned (.bool (fitsP r top bottom)) ∧ w' = w := by
  by_cases h1 : 0 ≤ top
  · by_cases h2 : top ≤ bottom
    · have HF : Hid (fitsP r top bottom = decide (bottom - top ≤ sizeP r)) := Lib.hid (by unfold fitsP; simp [h1, h2])
      go_enter Try.func25, Try.ntmps25
      go_wp2_with fail
      refine (size_any r _).mono ?_
      rintro e w' ⟨rfl, rfl⟩
      obtain ⟨d, hd⟩ : ∃ d, decide (bottom - top ≤ sizeP r) = d := ⟨_, rfl⟩
      rw [hd] at HF
      go_wp2_with fail
      go_ret
      exact ⟨by rw [HF.out]; rfl, rfl⟩
    · have HF : Hid (fitsP r top bottom = false) := Lib.hid (by unfold fitsP; simp [h2])
      have d2 : decide (top ≤ bottom) = false := by simp; omega
      go_enter Try.func25, Try.ntmps25
      go_wp2_with fail
      go_ret
      exact ⟨by rw [HF.out]; rfl, rfl⟩
  · have HF : Hid (fitsP r top bottom = false) := Lib.hid (by unfold fitsP; simp [h1])
    have d1 : decide (0 ≤ top) = false := by simp; omega
    go_enter Try.func25, Try.ntmps25
    go_wp2_with fail
    go_ret
    exact ⟨by rw [HF.out]; rfl, rfl⟩

/-- the pairs of cells of so many places from top on -/
def pairsP (b1 z1 b2 z2 top : Int) : Nat → List Value
  | 0 => []
  | n + 1 => pairsP b1 z1 b2 z2 top n ++ [.int .i64 (b1 + (top + n) % z1), .int .i64 (b2 + (top + n) % z2)]

theorem two_info : (Try.prog.info? 46).map (fun i => (i.zero, i.size, i.bytes)) = some (some (.agg #[.int .i64 0, .int .i64 0]), 2, 16) := by kernel_rfl

theorem own2_slice {w : World} {base : Nat} {v : Value} {n : Nat} {xs : List Value} (h : w.ownsRow base 46 2 v n xs) : ∃ p cap, v = .slice p n cap := by
  rcases h.2 with ⟨rfl, rfl⟩ | ⟨g, cap, cur, hv, _⟩
  · exact ⟨none, 0, rfl⟩
  · exact ⟨_, cap, hv⟩

theorem own2_below {w w1 : World} {base : Nat} {e : TypeId} {sz : Nat} {v : Value} {n : Nat} {xs : List Value} (h : w.ownsRow base e sz v n xs) (hb : Below w.heap.size w w1) : w1.ownsRow base e sz v n xs := by
  refine h.kept (row := none) (gb_below hb none) ?_
  cases hv : v.ownBlock with
  | none => exact .inl rfl
  | some k => exact .inr (by simp)

theorem own2_base {w : World} {b0 base : Nat} {e : TypeId} {sz : Nat} {v : Value} {n : Nat} {xs : List Value} (h : w.ownsRow base e sz v n xs) (hb : b0 ≤ base) : w.ownsRow b0 e sz v n xs := by
  refine ⟨h.1, ?_⟩
  rcases h.2 with h2 | ⟨g, cap, cur, h1, h2, h3⟩
  · exact .inl h2
  · exact .inr ⟨g, cap, cur, h1, Nat.le_trans hb h2, h3⟩

/-- what Moves leaves where all may be moved -/
def MovesPost (w : World) (b1 z1 b2 z2 top : Int) (n : Nat) (e : Ending) (w' : World) : Prop :=
  ∃ p cap, e = .returned (.slice p n cap) ∧ w'.ownsRow w.heap.size 46 2 (.slice p n cap) n (pairsP b1 z1 b2 z2 top n) ∧ Below w.heap.size w w'

set_option maxRecDepth 100000 in
set_option maxHeartbeats 4000000 in
theorem moves_yes (X : Array Value) (s t g seat r top : Int) (n : Nat) (hsz : X.size = 25) (h0 : X[0]? = some (.int .i64 s)) (h4 : X[4]? = some (.int .i64 t)) (h17 : X[17]? = some (.int .i64 g)) (hs : 1 ≤ s ∧ s ≤ 8) (hg : 0 ≤ g ∧ g ≤ 100000)
    (hb1 : 0 ≤ ringP s t g seat r) (hb2 : 0 ≤ ringP s t g seat (r + 1)) (hz1 : 0 < sizeP r) (hz2 : 0 < sizeP (r + 1)) (hn : (n : Int) ≤ sizeP r) (hr : 0 ≤ r ∧ r ≤ 20) (ht : 0 ≤ top ∧ top + n ≤ 9223372036854775807) (w : World) :
    Calls Try.prog 15 #[.agg X, .int .i64 seat, .int .i64 r, .int .i64 top, .int .i64 (top + n)] w (MovesPost w (ringP s t g seat r) (sizeP r) (ringP s t g seat (r + 1)) (sizeP (r + 1)) top n) := by
  obtain ⟨i0, hi0, hiz0, hiz1, hiz2⟩ := info_parts two_info
  have hbk : Blk (w.alloc (Obj.cells X 26)) w.heap.size 26 X := Blk.made w _ _
  have hb : Below w.heap.size w (w.alloc (Obj.cells X 26)) := (Below.refl _ w).alloc (Nat.le_refl _) _
  have hra : Hid (∀ wx, Below (w.heap.size + 1) (w.alloc (Obj.cells X 26)) wx → World.rangeAt wx w.heap.size 0 X.toList) := Lib.hid fun wx hx j v hv => by
    have h1 : Below (w.alloc (Obj.cells X 26)).heap.size (w.alloc (Obj.cells X 26)) wx := by simpa [go_sem] using hx
    rw [Nat.zero_add, (hbk.later h1).cell]; simpa using hv
  have hi2 : Hid ((Try.prog.info? 26).map (·.size) = some X.toList.length) := Lib.hid (by rw [Array.length_toList, hsz]; exact lay25)
  have HP1 := Lib.hid fun w => places_lay X s t g seat r hsz h0 h4 h17 hs hg w
  have HP2 := Lib.hid fun w => places_lay X s t g seat (r + 1) hsz h0 h4 h17 hs hg w
  have HB := Lib.hid hb
  have hrl1 := ring_le s t g seat r hs hg
  have hrl2 := ring_le s t g seat (r + 1) hs hg
  have hsl1 := size_le r
  have hsl2 := size_le (r + 1)
  have hfit : fitsP r top (top + n) = true := by unfold fitsP; simp; omega
  have HFT : Hid (∀ w, Calls Try.prog 25 #[.int .i64 r, .int .i64 top, .int .i64 (top + n)] w fun e w' => e = .returned (.bool true) ∧ w' = w) := Lib.hid fun w => hfit ▸ fits_any r top (top + n) (by omega) (by omega) w
  clear hbk hb hsz h0 h4 h17 hs hg hfit
  obtain ⟨b1, hbv1⟩ : ∃ b, ringP s t g seat r = b := ⟨_, rfl⟩
  obtain ⟨z1, hzv1⟩ : ∃ z, sizeP r = z := ⟨_, rfl⟩
  obtain ⟨b2, hbv2⟩ : ∃ b, ringP s t g seat (r + 1) = b := ⟨_, rfl⟩
  obtain ⟨z2, hzv2⟩ : ∃ z, sizeP (r + 1) = z := ⟨_, rfl⟩
  rw [hbv1] at HP1 hb1 hrl1 ⊢
  rw [hbv2] at HP2 hb2 hrl2 ⊢
  rw [hzv1] at HP1 hz1 hn hsl1 ⊢
  rw [hzv2] at HP2 hz2 hsl2 ⊢
  clear hbv1 hbv2 hzv1 hzv2
  have e1 : (decide (0 ≤ b1) && decide (0 < z1)) = true := by simp; omega
  have e2 : (decide (0 ≤ b2) && decide (0 < z2)) = true := by simp; omega
  have E1 := Lib.hid e1
  have E2 := Lib.hid e2
  clear e1 e2
  go_enter Try.func15, Try.ntmps15
  go_wp2_with (with_reducible (show wpList _ _ _ ({ dst := _, op := Op.load 26 _, type := _, pos := _, after := _, guard := none } :: _) _ _); refine wpList_load_mid rfl 26 _ rfl w.heap.size 0 rfl X.toList _ (hra.out _ (Below.refl _ _)) layFields rfl hi2.out ?_)
  refine (HP1.out _).mono ?_
  rintro e w2 ⟨B1, C1, rfl, hw2, hB1, hC1, cB1, cC1⟩
  rw [E1.out]
  have hb02 := HB.out.trans (hw2.mono HB.out.size)
  have hw2' : Below (w.heap.size + 1) (w.alloc (Obj.cells X 26)) w2 := by simpa [go_sem] using hw2
  have HW2 := Lib.hid hw2'
  clear hw2'
  go_wp2_with (with_reducible (show wpList _ _ _ ({ dst := _, op := Op.load 26 _, type := _, pos := _, after := _, guard := none } :: _) _ _); refine wpList_load_mid rfl 26 _ rfl w.heap.size 0 rfl X.toList _ (hra.out _ HW2.out) layFields rfl hi2.out ?_)
  refine (HP2.out _).mono ?_
  rintro e w3 ⟨B2, C2, rfl, hw3, hB2, hC2, cB2, cC2⟩
  rw [E2.out]
  have hb03 := hb02.trans (hw3.mono hb02.size)
  go_wp2_with fail
  refine (HFT.out _).mono ?_
  rintro e w' ⟨rfl, rfl⟩
  go_wp2_with fail
  have hW' : w.heap.size ≤ w'.heap.size := hb03.size
  have lB1 : B1 < w2.heap.size := World.block_lt_of_cell? w2 _ cB1
  have lC1 : C1 < w2.heap.size := World.block_lt_of_cell? w2 _ cC1
  have hcell : ∀ wx, Below w'.heap.size w' wx → wx.cell? ⟨B1, 0, none⟩ = some (.int .i64 b1) ∧ wx.cell? ⟨C1, 0, none⟩ = some (.int .i64 z1) ∧ wx.cell? ⟨B2, 0, none⟩ = some (.int .i64 b2) ∧ wx.cell? ⟨C2, 0, none⟩ = some (.int .i64 z2) := fun wx hx =>
    ⟨(hx.cell (p := ⟨B1, 0, none⟩) (Nat.lt_of_lt_of_le lB1 hw3.size)).trans ((hw3.cell (p := ⟨B1, 0, none⟩) lB1).trans cB1), (hx.cell (p := ⟨C1, 0, none⟩) (Nat.lt_of_lt_of_le lC1 hw3.size)).trans ((hw3.cell (p := ⟨C1, 0, none⟩) lC1).trans cC1),
      (hx.cell (p := ⟨B2, 0, none⟩) (World.block_lt_of_cell? w' _ cB2)).trans cB2, (hx.cell (p := ⟨C2, 0, none⟩) (World.block_lt_of_cell? w' _ cC2)).trans cC2⟩
  have HCL := Lib.hid hcell
  have HB3 := Lib.hid hb03
  clear hcell hb03 hb02 hw2 hw3 lB1 lC1 cB1 cC1 cB2 cC2 hB1 hC1 hB2 hC2 hra hi2 HB HFT HP1 HP2 E1 E2 HW2
  go_loopw [15, 48] (fun v a wr => ∃ k : Nat, a = .int .i64 k ∧ k ≤ n ∧ wr.ownsRow w'.heap.size 46 2 v k (pairsP b1 z1 b2 z2 top k) ∧ Below w'.heap.size w' wr) (fun _ a _ => n - (intOf a).toNat)
  case atStart => exact ⟨0, rfl, Nat.zero_le _, World.ownsRow_nil _ _ _ _, Below.refl _ _⟩
  case round =>
    obtain ⟨k, rfl, hk, hown, hbl⟩ := hrel
    rename_i v wr
    obtain ⟨p, cap, rfl⟩ := own2_slice hown
    by_cases hlt : k < n
    · obtain ⟨x1, hx1⟩ : ∃ x, b1 + (top + k) % z1 = x := ⟨_, rfl⟩
      obtain ⟨x2, hx2⟩ : ∃ x, b2 + (top + k) % z2 = x := ⟨_, rfl⟩
      obtain ⟨m1, m2, -, -⟩ := HCL.out wr hbl
      have hc1 := of_any b1 z1 (top + k) B1 C1 ⟨hz1, by omega⟩ ⟨hb1, by omega⟩ (by omega) wr m1 m2
      rw [hx1] at hc1
      have hc2 : ∀ w4, Below wr.heap.size wr w4 → Calls Try.prog 34 #[.int .i64 (top + k), .pointer (some ⟨B2, 0, none⟩), .pointer (some ⟨C2, 0, none⟩)] w4 fun e w' => e = .returned (.int .i64 x2) ∧ Below w4.heap.size w4 w' := fun w4 hb4 => by
        obtain ⟨-, -, m3, m4⟩ := HCL.out w4 (hbl.trans (hb4.mono hbl.size))
        have := of_any b2 z2 (top + k) B2 C2 ⟨hz2, by omega⟩ ⟨hb2, by omega⟩ (by omega) w4 m3 m4
        rwa [hx2] at this
      have HC1 := Lib.hid hc1
      have HC2 := Lib.hid hc2
      have HX1 := Lib.hid hx1
      have HX2 := Lib.hid hx2
      clear hc1 hc2 hx1 hx2 m1 m2
      go_wp2_with fail
      refine HC1.out.mono ?_
      rintro e w4 ⟨rfl, hb4⟩
      go_wp2_with fail
      refine (HC2.out w4 hb4).mono ?_
      rintro e w5 ⟨rfl, hb5⟩
      obtain ⟨W5, hW5⟩ : ∃ W5, W5 = w5.alloc (Obj.cells #[Value.int .i64 x1, Value.int .i64 x2] 46) := ⟨_, rfl⟩
      have HNew : Blk W5 w5.heap.size 46 #[Value.int .i64 x1, Value.int .i64 x2] := by rw [hW5]; exact Blk.made w5 _ _
      have hown5 := (own2_below (own2_below hown hb4) hb5).alloc (Obj.cells #[Value.int .i64 x1, Value.int .i64 x2] 46)
      rw [← hW5] at hown5
      have hB5 : Below w'.heap.size w' W5 := by
        rw [hW5]
        have h3 : Below w'.heap.size w' w5 := (hbl.trans (hb4.mono hbl.size)).trans (hb5.mono (hbl.trans (hb4.mono hbl.size)).size)
        exact h3.alloc h3.size _
      have hnews : ∀ j u, ([Value.int .i64 x1, Value.int .i64 x2] : List Value)[j]? = some u → W5.cell? ((⟨w5.heap.size, 0, none⟩ : Addr).add j) = some u := by
        intro j u hu
        rw [addr_add, Nat.zero_add, HNew.cell]
        simpa using hu
      have hlow : ∀ g, (Value.slice p k cap).ownBlock = some g → w'.heap.size ≤ g := fun g hg => (hown.lt g hg).1
      have HW5 := Lib.hid hW5
      have HNW := Lib.hid hnews
      have HLOW := Lib.hid hlow
      have HB5 := Lib.hid hB5
      clear hW5 hnews hlow hB5 HNew
      go_wp2_with (at_builtin; rw [← HW5.out]; refine wpList_append_own W5 rfl (.tmp 51) (.tmp 63) _ rfl w'.heap.size 46 i0 _ 2 16 Try.underlying31 hi0 hiz0 hiz1 hiz2 rfl (by omega) _ k _ rfl hown5 ⟨w5.heap.size, 0, none⟩ 1 1 [Value.int .i64 x1, Value.int .i64 x2] rfl rfl HNW.out (by simp [Value.oneCell']) (by unfold maxLen; omega) (by omega) HB5.out.size ?_; intro v4 w6 hown4 hg4 _)
      have hB6 : Below w'.heap.size w' w6 := below_gb HB5.out hg4 HB5.out.size (fun i hi => HLOW.out i hi)
      have hown6 : w6.ownsRow w'.heap.size 46 2 v4 (k + 1) (pairsP b1 z1 b2 z2 top (k + 1)) := by
        show w6.ownsRow w'.heap.size 46 2 v4 (k + 1) (pairsP b1 z1 b2 z2 top k ++ [.int .i64 (b1 + (top + k) % z1), .int .i64 (b2 + (top + k) % z2)])
        rw [HX1.out, HX2.out]
        exact hown4
      have HB6 := Lib.hid hB6
      have HO6 := Lib.hid hown6
      clear hown4 hB6 hown6
      go_roundw
      case rel => exact ⟨k + 1, by simp, by omega, HO6.out, HB6.out⟩
      case measure => simp [intOf]; omega
    · have hkn : k = n := by omega
      have hd : decide ((k : Int) < n) = false := by simp; omega
      have hp : Hid (wr.ownsRow w'.heap.size 46 2 (.slice p k cap) k (pairsP b1 z1 b2 z2 top k)) := Lib.hid hown
      have HKN := Lib.hid hkn
      clear hkn hown
      go_wp2_with fail
      go_ret
      refine ⟨p, cap, ?_, ?_, HB3.out.trans (hbl.mono hW')⟩
      · rw [← HKN.out]; rfl
      · rw [← HKN.out]; exact own2_base hp.out hW'
end Go.Proofs.Ytabgpoagnofifaa
