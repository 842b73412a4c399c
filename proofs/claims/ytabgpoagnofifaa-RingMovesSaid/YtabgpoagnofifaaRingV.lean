/-
  RING: Row, of a memory where all is there.
-/
import Derived.Test.YtabgpoagnofifaaRows
import Derived.ProofKit
import Derived.Test.YtabgpoagnofifaaRingU
import Derived.Test.YtabgpoagnofifaaLayG
namespace Go.Proofs.Ytabgpoagnofifaa
open Go.ChangeShapes Go.WideShapes Go.ChangeAt Go.RowKit

theorem own1_slice {w : World} {base : Nat} {v : Value} {n : Nat} {xs : List Value} (h : w.ownsRow base 3 1 v n xs) : ∃ p cap, v = .slice p n cap := by
  rcases h.2 with ⟨rfl, h0⟩ | ⟨g, cap, cur, h1, h2, h3⟩
  · subst h0; exact ⟨_, _, rfl⟩
  · exact ⟨_, _, h1⟩

/-- what Row leaves where all is there -/
def RowPost (w : World) (xs : List Int) (n : Nat) (e : Ending) (w' : World) : Prop :=
  ∃ p cap, e = .returned (.slice p n cap) ∧ w'.ownsRow w.heap.size 3 1 (.slice p n cap) n (xs.map (.int .i64 ·)) ∧ Below w.heap.size w w'

set_option maxRecDepth 100000 in
set_option maxHeartbeats 4000000 in
theorem row_any (X : Array Value) (s t g f seat top r : Int) (A : Array Value) (gm Z n : Nat) (xs : List Int) (hsz : X.size = 25) (h0 : X[0]? = some (.int .i64 s)) (h4 : X[4]? = some (.int .i64 t)) (h16 : X[16]? = some (.int .i64 f)) (h17 : X[17]? = some (.int .i64 g)) (hs : 1 ≤ s ∧ s ≤ 8) (hg : 0 ≤ g ∧ g ≤ 100000) (hf : 0 ≤ f ∧ f ≤ 50000)
    (hse : 0 ≤ seat ∧ seat < s) (hZ : Z ≤ 5000) (hn : xs.length = n) (hb1 : 0 ≤ ringP s t g seat r) (hz1 : 0 < sizeP r) (hnz : (n : Int) ≤ sizeP r) (ht : 0 ≤ top ∧ top ≤ 100000) (hr : 0 ≤ r ∧ r ≤ 100)
    (hbz : ringP s t g seat r + sizeP r ≤ Z) (hd : f + seat * 3 + 2 < Z)
    (a0 : A[(f + seat * 3 + 0).toNat]? = some (.int .i64 top)) (a1 : A[(f + seat * 3 + 1).toNat]? = some (.int .i64 (top + n))) (a2 : A[(f + seat * 3 + 2).toNat]? = some (.int .i64 r))
    (hA : ∀ i : Nat, i < n → A[(ringP s t g seat r + (top + i) % sizeP r).toNat]? = some (.int .i64 (xs.getD i 0))) (w : World) (hB : Blk w gm 3 A) :
    Calls Try.prog 19 #[.agg X, .agg #[.slice (some ⟨gm, 0, none⟩) Z Z], .int .i64 seat] w (RowPost w xs n) := by
  obtain ⟨i0, hi0, hiz0, hiz1, hiz2⟩ := info_parts intInfo
  obtain ⟨V, hV⟩ : ∃ V, V = ((w.alloc (Obj.cells X 26)).alloc (Obj.cells #[.slice (some ⟨gm, 0, none⟩) Z Z] 44)).alloc (Obj.cells #[.bool true] 4) := ⟨_, rfl⟩
  have hbV : Below w.heap.size w V := by rw [hV]; exact (((Below.refl _ w).alloc (Nat.le_refl _) _).alloc (by simp [go_sem]) _).alloc (by simp [go_sem]; omega) _
  have KX : Blk V w.heap.size 26 X := by rw [hV]; exact ((Blk.made w _ _).alloc _).alloc _
  have KM : Blk V (w.heap.size + 1) 44 #[.slice (some ⟨gm, 0, none⟩) Z Z] := by
    rw [hV]
    have := (Blk.made (w.alloc (Obj.cells X 26)) 44 #[.slice (some ⟨gm, 0, none⟩) Z Z]).alloc (Obj.cells #[.bool true] 4)
    simpa [go_sem] using this
  have KT : Blk V (w.heap.size + 1 + 1) 4 #[.bool true] := by
    rw [hV]
    have := Blk.made ((w.alloc (Obj.cells X 26)).alloc (Obj.cells #[.slice (some ⟨gm, 0, none⟩) Z Z] 44)) 4 #[.bool true]
    simpa [go_sem] using this
  have KA : Blk V gm 3 A := hB.later hbV
  have hra : Hid (∀ w', (∃ x : After V, w' = x.w) → World.rangeAt w' w.heap.size 0 X.toList) := Lib.hid fun wx ⟨x, hx⟩ j v hv => by
    subst hx
    rw [Nat.zero_add, (KX.later x.bel).cell]; simpa using hv
  have hi2 : Hid ((Try.prog.info? 26).map (·.size) = some X.toList.length) := Lib.hid (by rw [Array.length_toList, hsz]; exact lay25)
  have HHAS : Hid (∀ (c x : Int) wx, Below V.heap.size V wx → 0 ≤ c → c < Z → A[c.toNat]? = some (.int .i64 x) → Calls Try.prog 30 #[.int .i64 c, .pointer (some ⟨w.heap.size + 1, 0, none⟩), .pointer (some ⟨w.heap.size + 1 + 1, 0, none⟩)] wx fun e w' => e = .returned (.int .i64 x) ∧ Below wx.heap.size wx w') := Lib.hid fun c x wx hx k0 k1 k2 =>
    (has_any c x gm Z (w.heap.size + 1) (w.heap.size + 1 + 1) k0 k1 hZ wx ((KM.later hx).cell 0) (((KA.later hx).cell _).trans k2)).mono fun e w' ⟨e1, e2⟩ => ⟨e1, e2 ▸ Below.refl _ _⟩
  have HT : Hid (∀ wx, Below V.heap.size V wx → wx.cell? ⟨w.heap.size + 1 + 1, 0, none⟩ = some (.bool true)) := Lib.hid fun wx hx => (KT.later hx).cell 0
  have HD0 := Lib.hid fun w => deque_lay X f s seat 0 h16 hf h0 ⟨by omega, by omega⟩ hse (by omega) w
  have HD1 := Lib.hid fun w => deque_lay X f s seat 1 h16 hf h0 ⟨by omega, by omega⟩ hse (by omega) w
  have HD2 := Lib.hid fun w => deque_lay X f s seat 2 h16 hf h0 ⟨by omega, by omega⟩ hse (by omega) w
  obtain ⟨D, hDq⟩ : ∃ D, f + seat * 3 = D := ⟨_, rfl⟩
  have hD0 : 0 ≤ D := by omega
  rw [hDq] at HD0 HD1 HD2 a0 a1 a2 hd
  rw [Int.add_zero] at HD0 a0
  have HH0 := Lib.hid fun wx hx => HHAS.out D top wx hx (by omega) (by omega) a0
  have HH1 := Lib.hid fun wx hx => HHAS.out (D + 1) (top + n) wx hx (by omega) (by omega) a1
  have HH2 := Lib.hid fun wx hx => HHAS.out (D + 2) r wx hx (by omega) (by omega) a2
  have HP1 := Lib.hid fun w => places_lay X s t g seat r hsz h0 h4 h17 hs hg w
  have hrl1 := ring_le s t g seat r hs hg
  have hsl1 := size_le r
  have hfit : fitsP r top (top + n) = true := by unfold fitsP; simp; omega
  have HFT : Hid (∀ w, Calls Try.prog 25 #[.int .i64 r, .int .i64 top, .int .i64 (top + n)] w fun e w' => e = .returned (.bool true) ∧ w' = w) := Lib.hid fun w => hfit ▸ fits_any r top (top + n) (by omega) (by omega) w
  have HA := Lib.hid hA
  have HV := Lib.hid hV
  have HBV := Lib.hid hbV
  have HN := Lib.hid hn
  clear hA hV hbV KX KM KT KA h0 h4 h16 h17 hsz hfit a0 a1 a2 hDq hB hn hf hs hg hse
  obtain ⟨b1, hbv1⟩ : ∃ b, ringP s t g seat r = b := ⟨_, rfl⟩
  obtain ⟨z1, hzv1⟩ : ∃ z, sizeP r = z := ⟨_, rfl⟩
  rw [hbv1] at HP1 hb1 hrl1 HA hbz
  rw [hzv1] at HP1 hz1 hnz hsl1 HA hbz
  clear hbv1 hzv1
  have e1 : (decide (0 ≤ b1) && decide (0 < z1)) = true := by simp; omega
  have E1 := Lib.hid e1
  clear e1
  go_enter Try.func19, Try.ntmps19
  go_wp2_with fail
  rw [← HV.out]
  refine wp_region_after (by kernel_rfl) (by kernel_rfl) ?_
  repeat (first
    | (with_reducible (show wpQuiet _ _ _ _ ({ dst := _, op := Op.load 26 _, type := _, pos := _, after := _, guard := _ } :: _) _); go_big_quiet_want; refine quiet_load_K 26 _ rfl w.heap.size 0 rfl X.toList _ hra.out layFields rfl hi2.out ?_; go_simp; go_big_quiet_on)
    | (go_big_quiet_step (first
      | (go_at_call 18; with_reducible exact calls_after (HD0.out _))
      | (go_at_call 18; with_reducible exact calls_after (HD1.out _))
      | (go_at_call 18; with_reducible exact calls_after (HD2.out _))
      | (go_at_call 30; with_reducible exact calls_after (HH0.out _ (After.bel _)))
      | (go_at_call 30; with_reducible exact calls_after (HH1.out _ (After.bel _)))
      | (go_at_call 30; with_reducible exact calls_after (HH2.out _ (After.bel _))))))
  refine wpQuiet_nil ?_
  rintro _ ⟨y, rfl⟩
  have hb0 := HBV.out.trans (y.bel.mono HBV.out.size)
  have hm0 : w.heap.size ≤ y.w.heap.size := hb0.size
  have cT := HT.out y.w y.bel
  go_wp2_with (with_reducible (show wpList _ _ _ ({ dst := _, op := Op.load 26 _, type := _, pos := _, after := _, guard := none } :: _) _ _); refine wpList_load_mid rfl 26 _ rfl w.heap.size 0 rfl X.toList _ (hra.out _ ⟨y, rfl⟩) layFields rfl hi2.out ?_)
  refine (HP1.out _).mono ?_
  rintro e w3 ⟨B1, C1, rfl, hw3, hB1, hC1, cB1, cC1⟩
  rw [E1.out]
  have hb03 := hb0.trans (hw3.mono hb0.size)
  have hV3 := below_trans y.bel hw3
  have cT3 := HT.out w3 hV3
  clear cT
  go_wp2_with fail
  refine (HFT.out _).mono ?_
  rintro e w' ⟨rfl, rfl⟩
  go_wp2_with fail
  have hW' : w.heap.size ≤ w'.heap.size := hb03.size
  have hcell : ∀ wx, Below w'.heap.size w' wx → wx.cell? ⟨B1, 0, none⟩ = some (.int .i64 b1) ∧ wx.cell? ⟨C1, 0, none⟩ = some (.int .i64 z1) ∧ wx.cell? ⟨w.heap.size + 1 + 1, 0, none⟩ = some (.bool true) := fun wx hx =>
    ⟨(hx.cell (p := ⟨B1, 0, none⟩) (World.block_lt_of_cell? w' _ cB1)).trans cB1, (hx.cell (p := ⟨C1, 0, none⟩) (World.block_lt_of_cell? w' _ cC1)).trans cC1, HT.out wx (below_trans hV3 hx)⟩
  have hhx : ∀ wx, Below w'.heap.size w' wx → ∀ (c x : Int), 0 ≤ c → c < Z → A[c.toNat]? = some (.int .i64 x) → Calls Try.prog 30 #[.int .i64 c, .pointer (some ⟨w.heap.size + 1, 0, none⟩), .pointer (some ⟨w.heap.size + 1 + 1, 0, none⟩)] wx fun e w'' => e = .returned (.int .i64 x) ∧ Below wx.heap.size wx w'' := fun wx hx c x =>
    HHAS.out c x wx (below_trans hV3 hx)
  have HCL := Lib.hid hcell
  have HHX := Lib.hid hhx
  have HB3 := Lib.hid hb03
  clear hcell hhx hb03 hb0 hw3 cB1 cC1 hB1 hC1 hra hi2 HFT HP1 E1 HHAS HT hV3 cT3 HH0 HH1 HH2 HD0 HD1 HD2 HBV HV hm0
  go_loopw [14, 55] (fun v a wr => ∃ k : Nat, a = .int .i64 k ∧ k ≤ n ∧ wr.ownsRow w'.heap.size 3 1 v k ((xs.take k).map (.int .i64 ·)) ∧ Below w'.heap.size w' wr) (fun _ a _ => n - (intOf a).toNat)
  case atStart => exact ⟨0, rfl, Nat.zero_le _, World.ownsRow_nil _ _ _ _, Below.refl _ _⟩
  case round =>
    obtain ⟨k, rfl, hk, hown, hbl⟩ := hrel
    rename_i v wr
    obtain ⟨p, cap, rfl⟩ := own1_slice hown
    by_cases hlt : k < n
    · obtain ⟨c1, hc1⟩ : ∃ c, b1 + (top + k) % z1 = c := ⟨_, rfl⟩
      have hmod : 0 ≤ (top + k) % z1 ∧ (top + k) % z1 < z1 := ⟨Int.emod_nonneg _ (by omega), Int.emod_lt_of_pos _ hz1⟩
      obtain ⟨x1, hx1⟩ : ∃ x, xs.getD k 0 = x := ⟨_, rfl⟩
      have hxa := HA.out k hlt
      rw [hc1, hx1] at hxa
      obtain ⟨m1, m2, -⟩ := HCL.out wr hbl
      have hof := of_any b1 z1 (top + k) B1 C1 ⟨hz1, by omega⟩ ⟨hb1, by omega⟩ (by omega) wr m1 m2
      rw [hc1] at hof
      have hhs : ∀ w4, Below wr.heap.size wr w4 → Calls Try.prog 30 #[.int .i64 c1, .pointer (some ⟨w.heap.size + 1, 0, none⟩), .pointer (some ⟨w.heap.size + 1 + 1, 0, none⟩)] w4 fun e w' => e = .returned (.int .i64 x1) ∧ Below w4.heap.size w4 w' := fun w4 hb4 =>
        HHX.out w4 (hbl.trans (hb4.mono hbl.size)) c1 x1 (by omega) (by omega) hxa
      have HC1 := Lib.hid hof
      have HC2 := Lib.hid hhs
      have HX1 := Lib.hid hx1
      have htk : (top + k) ≤ 300000 := by omega
      clear hof hhs hx1 m1 m2 hxa hmod hc1
      go_wp2_with fail
      refine HC1.out.mono ?_
      rintro e w4 ⟨rfl, hb4⟩
      go_wp2_with fail
      refine (HC2.out w4 hb4).mono ?_
      rintro e w5 ⟨rfl, hb5⟩
      obtain ⟨W5, hW5⟩ : ∃ W5, W5 = w5.alloc (Obj.cells #[Value.int .i64 x1] 3) := ⟨_, rfl⟩
      have HNew : Blk W5 w5.heap.size 3 #[Value.int .i64 x1] := by rw [hW5]; exact Blk.made w5 _ _
      have hown5 := (own2_below (own2_below hown hb4) hb5).alloc (Obj.cells #[Value.int .i64 x1] 3)
      rw [← hW5] at hown5
      have hB5 : Below w'.heap.size w' W5 := by
        rw [hW5]
        have h3 : Below w'.heap.size w' w5 := (hbl.trans (hb4.mono hbl.size)).trans (hb5.mono (hbl.trans (hb4.mono hbl.size)).size)
        exact h3.alloc h3.size _
      have hnews : ∀ j u, ([Value.int .i64 x1] : List Value)[j]? = some u → W5.cell? ((⟨w5.heap.size, 0, none⟩ : Addr).add j) = some u := by
        intro j u hu
        rw [addr_add, Nat.zero_add, HNew.cell]
        simpa using hu
      have hlow : ∀ g, (Value.slice p k cap).ownBlock = some g → w'.heap.size ≤ g := fun g hg => (hown.lt g hg).1
      have HW5 := Lib.hid hW5
      have HNW := Lib.hid hnews
      have HLOW := Lib.hid hlow
      have HB5 := Lib.hid hB5
      clear hW5 hnews hlow hB5 HNew
      go_wp2_with (at_builtin; rw [← HW5.out]; refine wpList_append_own W5 rfl (.tmp 58) (.tmp 66) _ rfl w'.heap.size 3 i0 _ 1 8 Try.underlying40 hi0 hiz0 hiz1 hiz2 rfl (by omega) _ k _ rfl hown5 ⟨w5.heap.size, 0, none⟩ 1 1 [Value.int .i64 x1] rfl rfl HNW.out (by simp [Value.oneCell']) (by unfold maxLen; omega) (by omega) HB5.out.size ?_; intro v4 w6 hown4 hg4 _)
      have hB6 : Below w'.heap.size w' w6 := below_gb HB5.out hg4 HB5.out.size (fun i hi => HLOW.out i hi)
      have hown6 : w6.ownsRow w'.heap.size 3 1 v4 (k + 1) ((xs.take (k + 1)).map (.int .i64 ·)) := by
        have hkx : k < xs.length := by rw [HN.out]; exact hlt
        have hg : xs[k]? = some x1 := by
          rw [← HX1.out, List.getD_eq_getElem?_getD, List.getElem?_eq_getElem hkx]; rfl
        rw [List.take_add_one, hg, List.map_append]
        exact hown4
      have HB6 := Lib.hid hB6
      have HO6 := Lib.hid hown6
      clear hown4 hB6 hown6
      go_roundw
      case rel => exact ⟨k + 1, by simp, by omega, HO6.out, HB6.out⟩
      case measure => simp [intOf]; omega
    · have hkn : k = n := by omega
      have hd2 : decide ((k : Int) < n) = false := by simp; omega
      have hp : Hid (wr.ownsRow w'.heap.size 3 1 (.slice p k cap) k (xs.map (.int .i64 ·))) := Lib.hid (by
        rw [List.take_of_length_le (by rw [HN.out]; omega)] at hown; exact hown)
      have HKN := Lib.hid hkn
      have cT := (HCL.out wr hbl).2.2
      clear hkn hown
      go_wp2_with fail
      go_ret
      refine ⟨p, cap, ?_, ?_, HB3.out.trans (hbl.mono hW')⟩
      · rw [← HKN.out]; rfl
      · rw [← HKN.out]; exact own2_base hp.out hW'
end Go.Proofs.Ytabgpoagnofifaa
