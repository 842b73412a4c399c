/-
  RING: the document's Moves; Pairs.
-/
import Derived.Test.YtabgpoagnofifaaRows
import Derived.ProofKit
import Derived.OwnWalk
import Derived.LoopTactic
import Derived.Test.YtabgpoagnofifaaRingM
import Derived.Test.YtabgpoagnofifaaGrow
namespace Go.Proofs.Ytabgpoagnofifaa
open Go.ChangeShapes Go.WideShapes Go.ChangeAt Go.RowKit

theorem rfits_no (z1 b1 top bottom : Int) (h : rfitsP b1 z1 top bottom = true) : 0 ≤ b1 ∧ 0 < z1 ∧ 0 ≤ top ∧ top ≤ bottom ∧ bottom - top ≤ z1 := by
  unfold rfitsP at h
  simp only [Bool.and_eq_true, decide_eq_true_eq] at h
  exact h

theorem size_pos (r : Int) (h : 0 < sizeP r) : 0 ≤ r ∧ r ≤ 15 := by
  refine ⟨?_, ?_⟩
  · refine Int.not_lt.1 fun h2 => ?_
    unfold sizeP at h; rw [if_pos h2] at h; omega
  · refine Int.not_lt.1 fun h2 => ?_
    unfold sizeP at h
    rw [if_neg (by omega), if_neg (by omega), if_neg (by omega), if_neg (by omega), if_neg (by omega), if_neg (by omega), if_neg (by omega), if_neg (by omega), if_neg (by omega), if_neg (by omega), if_neg (by omega), if_neg (by omega), if_neg (by omega), if_neg (by omega), if_neg (by omega), if_neg (by omega), if_neg (by omega)] at h
    omega

set_option maxRecDepth 100000 in
set_option maxHeartbeats 4000000 in
theorem rmoves_any (X : Array Value) (s t g seat r r2 top bottom : Int) (hsz : X.size = 25) (h0 : X[0]? = some (.int .i64 s)) (h4 : X[4]? = some (.int .i64 t)) (h17 : X[17]? = some (.int .i64 g)) (hs : 1 ≤ s ∧ s ≤ 8) (htt : t ≤ 64) (hg : 0 ≤ g ∧ g ≤ 100000)
    (hr2 : wrap64 (r + 1) = r2) (ht : -9223372036854775808 ≤ top ∧ top ≤ 9223372036854775807) (hbo : -9223372036854775808 ≤ bottom ∧ bottom ≤ 9223372036854775807) (w : World) :
    Calls Try.prog 16 #[.agg X, .int .i64 seat, .int .i64 r, .int .i64 top, .int .i64 bottom] w (MovesAny w (ringP s t g seat r) (sizeP r) (ringP s t g seat r2) (sizeP r2) top (movesN (ringP s t g seat r) (sizeP r) (ringP s t g seat r2) (sizeP r2) top bottom)) := by
  obtain ⟨i0, hi0, hiz0, hiz1, hiz2⟩ := info_parts two_info
  have hbk : Blk (w.alloc (Obj.cells X 26)) w.heap.size 26 X := Blk.made w _ _
  have hb : Below w.heap.size w (w.alloc (Obj.cells X 26)) := (Below.refl _ w).alloc (Nat.le_refl _) _
  have hra : Hid (∀ wx, Below (w.heap.size + 1) (w.alloc (Obj.cells X 26)) wx → World.rangeAt wx w.heap.size 0 X.toList) := Lib.hid fun wx hx j v hv => by
    have h1 : Below (w.alloc (Obj.cells X 26)).heap.size (w.alloc (Obj.cells X 26)) wx := by simpa [go_sem] using hx
    rw [Nat.zero_add, (hbk.later h1).cell]; simpa using hv
  have hi2 : Hid ((Try.prog.info? 26).map (·.size) = some X.toList.length) := Lib.hid (by rw [Array.length_toList, hsz]; exact lay25)
  have HFT := Lib.hid fun w => rfits_lay X s t g seat r top bottom hsz h0 h4 h17 hs htt hg ht hbo w
  have HP1 := Lib.hid fun i w => rplace_lay X s t g seat r i hsz h0 h4 h17 hs htt hg w
  have HP2 := Lib.hid fun i w => rplace_lay X s t g seat r2 i hsz h0 h4 h17 hs htt hg w
  have HB := Lib.hid hb
  have hrl1 := ring_le s t g seat r hs hg
  have hrl2 := ring_le s t g seat r2 hs hg
  have hsl1 := size_le r
  have hsl2 := size_le r2
  have hpos := size_pos r
  clear hbk hb hsz h0 h4 h17 hs hg htt
  obtain ⟨b1, hbv1⟩ : ∃ b, ringP s t g seat r = b := ⟨_, rfl⟩
  obtain ⟨z1, hzv1⟩ : ∃ z, sizeP r = z := ⟨_, rfl⟩
  obtain ⟨b2, hbv2⟩ : ∃ b, ringP s t g seat r2 = b := ⟨_, rfl⟩
  obtain ⟨z2, hzv2⟩ : ∃ z, sizeP r2 = z := ⟨_, rfl⟩
  rw [hbv1] at HFT HP1 hrl1 ⊢
  rw [hbv2] at HP2 hrl2 ⊢
  rw [hzv1] at HFT HP1 hsl1 hpos ⊢
  rw [hzv2] at HP2 hsl2 ⊢
  clear hbv1 hbv2 hzv1 hzv2
  obtain ⟨N, hN⟩ : ∃ N, movesN b1 z1 b2 z2 top bottom = N := ⟨_, rfl⟩
  rw [hN]
  cases hfit : rfitsP b1 z1 top bottom with
  | false =>
    have hN0 : N = 0 := by rw [← hN]; unfold movesN okP; rw [hfit]; rfl
    subst hN0
    rw [hfit] at HFT
    clear hN hfit
    go_enter Try.func16, Try.ntmps16
    go_wp2_with (with_reducible (show wpList _ _ _ ({ dst := _, op := Op.load 26 _, type := _, pos := _, after := _, guard := none } :: _) _ _); refine wpList_load_mid rfl 26 _ rfl w.heap.size 0 rfl X.toList _ (hra.out _ (Below.refl _ _)) layFields rfl hi2.out ?_)
    refine (HFT.out _).mono ?_
    rintro e w2 ⟨rfl, hw2⟩
    have hb02 := HB.out.trans (hw2.mono HB.out.size)
    go_wp2_with fail
    go_ret
    exact ⟨none, 0, rfl, ⟨fun i h => absurd h (by simp [pairsP])⟩, hb02⟩
  | true =>
    obtain ⟨k1, k2, k3, k4, k5⟩ := rfits_no z1 b1 top bottom hfit
    have hr := hpos k2
    have e2 : r2 = r + 1 := by rw [← hr2]; unfold wrap64; omega
    subst e2
    obtain ⟨n, hn⟩ : ∃ n : Nat, bottom - top = n := ⟨(bottom - top).toNat, by omega⟩
    have hbt : bottom = top + n := by omega
    subst hbt
    have HPZ := Lib.hid (HP2.out 0)
    have hpz : placeP b2 z2 0 = if 0 ≤ b2 ∧ 0 < z2 then b2 else -1 := by
      unfold placeP
      by_cases h : 0 ≤ b2 ∧ 0 < z2
      · rw [if_neg (by omega), if_pos h, Int.zero_emod]; omega
      · rw [if_pos (by omega), if_neg h]
    rw [hpz] at HPZ
    rw [hfit] at HFT
    clear hpz hr2 hn hpos
    by_cases q : 0 ≤ b2 ∧ 0 < z2
    · have hN1 : N = n := by
        rw [← hN]; unfold movesN okP; rw [hfit]; simp [q.1, q.2]; omega
      subst hN1
      rw [if_pos q] at HPZ
      have q1 : ¬ b2 < 0 := by omega
      clear hN hfit
      go_enter Try.func16, Try.ntmps16
      go_wp2_with (with_reducible (show wpList _ _ _ ({ dst := _, op := Op.load 26 _, type := _, pos := _, after := _, guard := none } :: _) _ _); refine wpList_load_mid rfl 26 _ rfl w.heap.size 0 rfl X.toList _ (hra.out _ (Below.refl _ _)) layFields rfl hi2.out ?_)
      refine (HFT.out _).mono ?_
      rintro e w2 ⟨rfl, hw2⟩
      have hb02 := HB.out.trans (hw2.mono HB.out.size)
      have hw2' : Below (w.heap.size + 1) (w.alloc (Obj.cells X 26)) w2 := by simpa [go_sem] using hw2
      have HW2 := Lib.hid hw2'
      clear hw2' hw2
      go_wp2_with (first
        | (with_reducible (show wpList _ _ _ ({ dst := _, op := Op.load 26 _, type := _, pos := _, after := _, guard := some _ } :: _) _ _); refine wpList_load_mid_g rfl 26 _ rfl w.heap.size 0 rfl X.toList _ (hra.out _ HW2.out) layFields rfl hi2.out ?_))
      refine (HPZ.out _).mono ?_
      rintro e w3 ⟨rfl, hw3⟩
      have hb03 := hb02.trans (hw3.mono hb02.size)
      have hw3' := HW2.out.trans (hw3.mono (show w.heap.size + 1 ≤ w2.heap.size by have := HW2.out.size; simpa [go_sem] using this))
      have HW3 := Lib.hid hw3'
      have HB3 := Lib.hid hb03
      have hW' : w.heap.size ≤ w3.heap.size := hb03.size
      clear hw3' hw3 hb03 hb02 HW2
      go_wp2_with fail
      go_loopw [12, 13] (fun v a wr => ∃ k : Nat, a = .int .i64 k ∧ k ≤ N ∧ wr.ownsRow w3.heap.size 46 2 v k (pairsP b1 z1 b2 z2 top k) ∧ Below w3.heap.size w3 wr) (fun _ a _ => N - (intOf a).toNat)
      case atStart => exact ⟨0, rfl, Nat.zero_le _, World.ownsRow_nil _ _ _ _, Below.refl _ _⟩
      case round =>
        obtain ⟨k, rfl, hk, hown, hbl⟩ := hrel
        rename_i v wr
        obtain ⟨p, cap, rfl⟩ := own2_slice hown
        by_cases hlt : k < N
        · have hlt2 : (k : Int) < N := by omega
          obtain ⟨x1, hx1⟩ : ∃ x, b1 + (top + k) % z1 = x := ⟨_, rfl⟩
          obtain ⟨x2, hx2⟩ : ∃ x, b2 + (top + k) % z2 = x := ⟨_, rfl⟩
          have hp1 := HP1.out (top + k)
          have hp2 := HP2.out (top + k)
          rw [show placeP b1 z1 (top + k) = x1 by unfold placeP; rw [if_neg (by omega), hx1]] at hp1
          rw [show placeP b2 z2 (top + k) = x2 by unfold placeP; rw [if_neg (by omega), hx2]] at hp2
          have hrx : ∀ w', (∃ x : After wr, w' = x.w) → World.rangeAt w' w.heap.size 0 X.toList := fun w' ⟨x, hx⟩ => by
            subst hx
            have h1 := hbl.trans (x.bel.mono hbl.size)
            have h2 : w.heap.size + 1 ≤ w3.heap.size := by have := HW3.out.size; simpa [go_sem] using this
            exact hra.out _ (HW3.out.trans (h1.mono h2))
          have HC1 := Lib.hid hp1
          have HC2 := Lib.hid hp2
          have HX1 := Lib.hid hx1
          have HX2 := Lib.hid hx2
          have HRX := Lib.hid hrx
          clear hp1 hp2 hx1 hx2 hrx
          have e1 : IntKind.i64.wrap (top + k) = top + k := by rw [IntKind.wrap_i64]; omega
          have e2 : IntKind.i64.wrap (r + 1) = r + 1 := by rw [IntKind.wrap_i64]; omega
          go_wp2_with fail
          refine wp_region_grow_tail 18 [(7, Maker.val (.int .i64 x1)), (15, Maker.val (.int .i64 x2)), (17, Maker.row 46 #[.int .i64 x1, .int .i64 x2])] (by kernel_rfl) (by kernel_rfl) (by kernel_rfl) (by kernel_rfl) ?_
          simp only [List.take_succ_cons, List.take_zero, List.drop_succ_cons, List.drop_zero]
          repeat (first
            | (refine wpGrow_plain rfl ?_; first
              | (with_reducible (show wpQuiet _ _ _ _ ({ dst := _, op := Op.load 26 _, type := _, pos := _, after := _, guard := _ } :: _) _); go_big_quiet_want; refine quiet_load_K 26 _ rfl w.heap.size 0 rfl X.toList _ HRX.out layFields rfl hi2.out ?_; go_simp; go_big_quiet_on; refine wpQuiet_nil ?_)
              | (go_big_quiet_step (fail); refine wpQuiet_nil ?_))
            | (refine wpGrow_val rfl rfl (fun _ hx hF => ?_) (fun a' ha => ?_)
               · obtain ⟨x, rfl⟩ := hx
                 go_simp
                 first
                   | (with_reducible exact make_val (HC1.out _))
                   | (with_reducible exact make_val (HC2.out _))
               simp [go_sem] at ha
               subst ha))
          refine wpGrow_any _ rfl rfl (fun _ hx hF => ?_) (fun v hv a' ha => ?_)
          · obtain ⟨x, rfl⟩ := hx
            go_simp
            exact make_row
          obtain ⟨g5, rfl⟩ := hv
          simp [go_sem] at ha
          subst ha
          refine wpGrow_nil ?_
          rintro _ ⟨y, rfl⟩ hF
          obtain ⟨g5', e5, HNew⟩ : ∃ g, Value.slice (some ⟨g5, 0, none⟩) 1 1 = .slice (some ⟨g, 0, none⟩) 1 1 ∧ Blk y.w g 46 #[Value.int .i64 x1, Value.int .i64 x2] := hF 17
          have e5' : g5' = g5 := by injection e5 with e5; injection e5 with e5; injection e5 with e5; exact e5.symm
          subst e5'
          have hby := y.bel
          clear e1 e2 e5 hF
          obtain ⟨W5, hW5⟩ : ∃ W5, W5 = y.w := ⟨_, rfl⟩
          have hown5 := own2_below hown hby
          rw [← hW5] at hown5 HNew hby ⊢
          have hB5 : Below w3.heap.size w3 W5 := hbl.trans (hby.mono hbl.size)
          have hnews : ∀ j u, ([Value.int .i64 x1, Value.int .i64 x2] : List Value)[j]? = some u → W5.cell? ((⟨g5', 0, none⟩ : Addr).add j) = some u := by
            intro j u hu
            rw [addr_add, Nat.zero_add, HNew.cell]
            simpa using hu
          have hlow : ∀ g, (Value.slice p k cap).ownBlock = some g → w3.heap.size ≤ g := fun g hg => (hown.lt g hg).1
          have HNW := Lib.hid hnews
          have HLOW := Lib.hid hlow
          have HB5 := Lib.hid hB5
          have HBL := Lib.hid hbl
          clear hW5 hnews hlow hB5 HNew hbl hby
          go_wp2_with (at_builtin; refine wpList_append_own W5 rfl (.tmp 37) (.tmp 54) _ rfl w3.heap.size 46 i0 _ 2 16 Try.underlying31 hi0 hiz0 hiz1 hiz2 rfl (by omega) _ k _ rfl hown5 ⟨g5', 0, none⟩ 1 1 [Value.int .i64 x1, Value.int .i64 x2] rfl rfl HNW.out (by simp [Value.oneCell']) (by unfold maxLen; omega) (by omega) HB5.out.size ?_; intro v4 w6 hown4 hg4 _)
          have hB6 : Below w3.heap.size w3 w6 := below_gb HB5.out hg4 HB5.out.size (fun i hi => HLOW.out i hi)
          have hown6 : w6.ownsRow w3.heap.size 46 2 v4 (k + 1) (pairsP b1 z1 b2 z2 top (k + 1)) := by
            show w6.ownsRow w3.heap.size 46 2 v4 (k + 1) (pairsP b1 z1 b2 z2 top k ++ [.int .i64 (b1 + (top + k) % z1), .int .i64 (b2 + (top + k) % z2)])
            rw [HX1.out, HX2.out]
            exact hown4
          have HB6 := Lib.hid hB6
          have HO6 := Lib.hid hown6
          clear hown4 hB6 hown6
          go_roundw
          case rel => exact ⟨k + 1, by simp, by omega, HO6.out, HB6.out⟩
          case measure => simp [intOf]; omega
        · have hkn : k = N := by omega
          have hd : ¬ (k : Int) < N := by omega
          have HKN := Lib.hid hkn
          have hp : Hid (wr.ownsRow w3.heap.size 46 2 (.slice p k cap) k (pairsP b1 z1 b2 z2 top k)) := Lib.hid hown
          have HBL := Lib.hid hbl
          clear hkn hown hbl
          go_wp2_with fail
          go_ret
          refine ⟨p, cap, ?_, ?_, HB3.out.trans (HBL.out.mono hW')⟩
          · rw [← HKN.out]; rfl
          · rw [← HKN.out]; exact Cells.of_own hp.out
    · have hN0 : N = 0 := by
        rw [← hN]; unfold movesN okP; rw [if_neg]; rw [hfit]; simp; omega
      subst hN0
      rw [if_neg q] at HPZ
      clear hN hfit
      go_enter Try.func16, Try.ntmps16
      go_wp2_with (with_reducible (show wpList _ _ _ ({ dst := _, op := Op.load 26 _, type := _, pos := _, after := _, guard := none } :: _) _ _); refine wpList_load_mid rfl 26 _ rfl w.heap.size 0 rfl X.toList _ (hra.out _ (Below.refl _ _)) layFields rfl hi2.out ?_)
      refine (HFT.out _).mono ?_
      rintro e w2 ⟨rfl, hw2⟩
      have hb02 := HB.out.trans (hw2.mono HB.out.size)
      have hw2' : Below (w.heap.size + 1) (w.alloc (Obj.cells X 26)) w2 := by simpa [go_sem] using hw2
      have HW2 := Lib.hid hw2'
      clear hw2' hw2
      go_wp2_with (first
        | (with_reducible (show wpList _ _ _ ({ dst := _, op := Op.load 26 _, type := _, pos := _, after := _, guard := some _ } :: _) _ _); refine wpList_load_mid_g rfl 26 _ rfl w.heap.size 0 rfl X.toList _ (hra.out _ HW2.out) layFields rfl hi2.out ?_))
      refine (HPZ.out _).mono ?_
      rintro e w3 ⟨rfl, hw3⟩
      go_wp2_with fail
      go_ret
      exact ⟨none, 0, rfl, ⟨fun i h => absurd h (by simp [pairsP])⟩, hb02.trans (hw3.mono hb02.size)⟩

theorem pairs_len (b1 z1 b2 z2 top : Int) (n : Nat) : (pairsP b1 z1 b2 z2 top n).length = 2 * n := by
  induction n with
  | zero => rfl
  | succ n ih => simp [pairsP, ih]; omega

theorem pairs_at (b1 z1 b2 z2 top : Int) (n i : Nat) (h : i < n) : (pairsP b1 z1 b2 z2 top n)[2 * i]? = some (.int .i64 (b1 + (top + i) % z1)) ∧ (pairsP b1 z1 b2 z2 top n)[2 * i + 1]? = some (.int .i64 (b2 + (top + i) % z2)) := by
  induction n with
  | zero => omega
  | succ n ih =>
    have hl := pairs_len b1 z1 b2 z2 top n
    unfold pairsP
    by_cases hi : i < n
    · rw [List.getElem?_append_left (by omega), List.getElem?_append_left (by omega)]
      exact ih hi
    · have : i = n := by omega
      subst this
      rw [List.getElem?_append_right (by omega), List.getElem?_append_right (by omega), hl]
      simp

set_option maxHeartbeats 4000000 in
theorem pairs_any (p1 p2 : Option Addr) (n c1 c2 : Nat) (b1 z1 b2 z2 top : Int) (w : World) (h1 : Cells w p1 (pairsP b1 z1 b2 z2 top n)) (h2 : Cells w p2 (pairsP b1 z1 b2 z2 top n)) (hn : n ≤ 1000000) :
    Calls Try.prog 14 #[.slice p1 n c1, .slice p2 n c2] w fun e w' => e = .returned (.bool true) ∧ Below w.heap.size w w' := by
  have hl := pairs_len b1 z1 b2 z2 top n
  have hat := pairs_at b1 z1 b2 z2 top n
  have H1 := Lib.hid h1
  have H2 := Lib.hid h2
  have HL := Lib.hid hl
  have HA := Lib.hid hat
  clear h1 h2 hl hat
  go_enter Try.func14, Try.ntmps14
  go_wp2_with fail
  go_loopw [5] (fun i wr => ∃ k : Nat, i = .int .i64 k ∧ k ≤ n ∧ Below w.heap.size w wr) (fun i _ => n - (intOf i).toNat)
  case atStart => exact ⟨0, rfl, Nat.zero_le _, Below.refl _ _⟩
  case round =>
    obtain ⟨k, rfl, hk, hb⟩ := hrel
    rename_i wr
    by_cases hlt : k < n
    · obtain ⟨a1, o1, rfl, l1, g1⟩ := (H1.out.later hb).opened (by rw [HL.out]; omega)
      obtain ⟨a2, o2, rfl, l2, g2⟩ := (H2.out.later hb).opened (by rw [HL.out]; omega)
      obtain ⟨e0, e1⟩ := HA.out k hlt
      obtain ⟨x, hx⟩ : ∃ x, b1 + (top + k) % z1 = x := ⟨_, rfl⟩
      obtain ⟨y, hy⟩ : ∃ x, b2 + (top + k) % z2 = x := ⟨_, rfl⟩
      rw [hx] at e0
      rw [hy] at e1
      have m0 := g1 _ _ e0
      have m1 := g1 _ _ e1
      have m2 := g2 _ _ e0
      have m3 := g2 _ _ e1
      have q0 : wr.cell? ⟨a1, o1 + k * 2, none⟩ = some (.int .i64 x) := by rw [← m0]; congr 2; omega
      have q1 : wr.cell? ⟨a1, o1 + k * 2 + 1, none⟩ = some (.int .i64 y) := by rw [← m1]; congr 2; omega
      have q2 : wr.cell? ⟨a2, o2 + k * 2, none⟩ = some (.int .i64 x) := by rw [← m2]; congr 2; omega
      have q3 : wr.cell? ⟨a2, o2 + k * 2 + 1, none⟩ = some (.int .i64 y) := by rw [← m3]; congr 2; omega
      have hgd := twoGuard
      have qe : ∀ wx, (Op.equalIn 10000 46 (.agg #[.int .i64 x, .int .i64 y]) (.agg #[.int .i64 x, .int .i64 y])).run Try.prog wx = .ok true wx := fun wx => by
        rw [two_eq]; simp
      have hlt2 : (k : Int) < n := by omega
      have hk0 : (0 : Int) ≤ k := by omega
      have HB := Lib.hid hb
      clear m0 m1 m2 m3 g1 g2 e0 e1 hb hx hy
      go_wp2_with fail
      go_quiet (fail)
      go_wp2_with fail
      go_roundw
      case rel => exact ⟨k + 1, by simp, by omega, bel_drewN HB.out _⟩
      case measure => simp [intOf]; omega
    · have hd : ¬ (k : Int) < n := by omega
      go_wp2_with fail
      go_ret
      exact ⟨rfl, hb⟩
end Go.Proofs.Ytabgpoagnofifaa
