/-
  RING: the document's Ring, Place, Fits.
-/
import Derived.Test.YtabgpoagnofifaaRows
import Derived.ProofKit
import Derived.Test.YtabgpoagnofifaaRingR
import Derived.Test.YtabgpoagnofifaaRingP
namespace Go.Proofs.Ytabgpoagnofifaa
open Go.ChangeShapes Go.WideShapes Go.ChangeAt Go.RowKit

theorem ringP_out (s t g seat r : Int) (h : seat < 0 ∨ s ≤ seat ∨ r < 0 ∨ ringsP t ≤ r) : ringP s t g seat r = -1 := by
  unfold ringP
  split
  · rfl
  · unfold atP; rw [if_pos (by omega)]

theorem ringP_in (s t g seat r : Int) (h1 : 0 ≤ seat) (h2 : seat < s) (h3 : 0 ≤ r) (h4 : r < ringsP t) : ringP s t g seat r = g + seat * cellsP (ringsP t) + cellsP r := by
  have h5 := rings_le t
  have hc : 0 ≤ cellsP r ∧ cellsP r < cellsP (ringsP t) := by
    refine ⟨(cells_le r h3).1, ?_⟩
    rcases (show ringsP t = 1 ∨ ringsP t = 2 ∨ ringsP t = 3 ∨ ringsP t = 4 ∨ ringsP t = 5 by omega) with h | h | h | h | h <;> rw [h] at h4 ⊢ <;> rcases (show r = 0 ∨ r = 1 ∨ r = 2 ∨ r = 3 ∨ r = 4 by omega) with rfl | rfl | rfl | rfl | rfl <;> first | decide | omega
  unfold ringP
  rw [if_neg (by omega)]
  unfold atP
  rw [if_neg (by omega)]

set_option maxHeartbeats 2000000 in
theorem rring_lay (X : Array Value) (s t g seat r : Int) (hsz : X.size = 25) (h0 : X[0]? = some (.int .i64 s)) (h4 : X[4]? = some (.int .i64 t)) (h17 : X[17]? = some (.int .i64 g)) (hs : 1 ≤ s ∧ s ≤ 8) (ht : t ≤ 64) (hg : 0 ≤ g ∧ g ≤ 100000) (w : World) :
    Calls Try.prog 24 #[.agg X, .int .i64 seat, .int .i64 r] w fun e w' => e = .returned (.int .i64 (ringP s t g seat r)) ∧ Below w.heap.size w w' := by
  have hbk : Blk (w.alloc (Obj.cells X 26)) w.heap.size 26 X := Blk.made w _ _
  have hb : Below w.heap.size w (w.alloc (Obj.cells X 26)) := (Below.refl _ w).alloc (Nat.le_refl _) _
  have hra : Hid (World.rangeAt (w.alloc (Obj.cells X 26)) w.heap.size 0 X.toList) := Lib.hid fun j v hv => by
    rw [Nat.zero_add, hbk.cell]; simpa using hv
  have hi2 : Hid ((Try.prog.info? 26).map (·.size) = some X.toList.length) := Lib.hid (by rw [Array.length_toList, hsz]; exact lay25)
  have hout := ringP_out s t g seat r
  have hin := ringP_in s t g seat r
  obtain ⟨q, hq⟩ : ∃ q, ringsP t = q := ⟨_, rfl⟩
  have hq5 : 1 ≤ q ∧ q ≤ 5 := hq ▸ rings_le t
  have HRL : Hid (∀ w, Calls Try.prog 35 #[.agg X] w fun e w' => e = .returned (.int .i64 q) ∧ Below w.heap.size w w') := Lib.hid (hq ▸ rrings_lay X t h4 ht)
  obtain ⟨Z, hZ⟩ : ∃ Z, ringP s t g seat r = Z := ⟨_, rfl⟩
  rw [hq, hZ] at hin hout
  rw [hZ]
  have HK := Lib.hid hbk
  have HB := Lib.hid hb
  have H0 := Lib.hid h0
  have H17 := Lib.hid h17
  have HO := Lib.hid hout
  have HI := Lib.hid hin
  clear hbk hb hsz h0 h4 h17 hq hZ hout hin
  go_enter Try.func24, Try.ntmps24
  go_wp2_with (with_reducible (show wpList _ _ _ ({ dst := _, op := Op.load 26 _, type := _, pos := _, after := _, guard := none } :: _) _ _); refine wpList_load_mid rfl 26 _ rfl w.heap.size 0 rfl X.toList _ hra.out layFields rfl hi2.out ?_)
  refine (HRL.out _).mono ?_
  rintro e w2 ⟨rfl, hb2⟩
  have hb02 := HB.out.trans (hb2.mono HB.out.size)
  have HK2 := HK.out.later hb2
  have hlt := HK2.lt
  have k0 : w2.cell? ⟨w.heap.size, 0, none⟩ = some (.int .i64 s) := (HK2.cell 0).trans H0.out
  by_cases h1 : 0 ≤ seat ∧ seat < s
  · have i1 : inP seat 0 (s - 1) = true := by unfold inP; simp; omega
    have I1 := Lib.hid i1
    clear i1
    by_cases h2 : 0 ≤ r ∧ r < q
    · have i2 : inP r 0 (q - 1) = true := by unfold inP; simp; omega
      have I2 := Lib.hid i2
      clear i2
      go_wp2_with fail
      refine (rin_any seat 0 (s - 1) _).mono ?_
      rintro e w' ⟨rfl, rfl⟩
      rw [I1.out]
      go_wp2_with fail
      refine (rin_any r 0 (q - 1) _).mono ?_
      rintro e w' ⟨rfl, rfl⟩
      rw [I2.out]
      go_wp2_with fail
      have x17 : ∀ y : After w', y.w.cell? ⟨w.heap.size, 17, none⟩ = some (.int .i64 g) := fun y => (y.cell hlt).trans ((HK2.cell 17).trans H17.out)
      have hcq := cells_le q (by omega)
      have hcr := cells_le r (by omega)
      obtain ⟨c, hc⟩ : ∃ c, cellsP q = c := ⟨_, rfl⟩
      obtain ⟨d, hd⟩ : ∃ c, cellsP r = c := ⟨_, rfl⟩
      have HR1 : Hid (∀ w, Calls Try.prog 37 #[.int .i64 q] w fun e w' => e = .returned (.int .i64 c) ∧ w' = w) := Lib.hid fun w => hc ▸ rroom_any q (by omega) (by omega) w
      have HR2 : Hid (∀ w, Calls Try.prog 37 #[.int .i64 r] w fun e w' => e = .returned (.int .i64 d) ∧ w' = w) := Lib.hid fun w => hd ▸ rroom_any r (by omega) (by omega) w
      obtain ⟨p, hp⟩ : ∃ p, seat * c = p := ⟨_, rfl⟩
      have hv := HI.out h1.1 h1.2 h2.1 h2.2
      rw [hc, hd, hp] at hv
      rw [hc] at hcq
      rw [hd] at hcr
      have hp1 : 0 ≤ p ∧ p ≤ 1000 := by
        rw [← hp]
        exact ⟨Int.mul_nonneg h1.1 hcq.1, by have := Int.mul_le_mul (show seat ≤ 8 by omega) hcq.2 hcq.1 (by omega); omega⟩
      have e1 : IntKind.i64.wrap (seat * c) = p := by rw [hp, IntKind.wrap_i64]; omega
      have e2 : IntKind.i64.wrap (g + p) = g + p := by rw [IntKind.wrap_i64]; omega
      have e3 : IntKind.i64.wrap (g + p + d) = g + p + d := by rw [IntKind.wrap_i64]; omega
      have HV := Lib.hid hv
      have HB2 := Lib.hid hb02
      clear hc hd hp hv hb02
      refine wp_region_after (by kernel_rfl) (by kernel_rfl) ?_
      repeat (go_big_quiet_step (first
        | (go_at_call_of 37 q; exact calls_after ((HR1.out _).mono fun e w' ⟨h1, h2⟩ => ⟨h1, h2 ▸ Below.refl _ _⟩))
        | (go_at_call_of 37 r; exact calls_after ((HR2.out _).mono fun e w' ⟨h1, h2⟩ => ⟨h1, h2 ▸ Below.refl _ _⟩))))
      refine wpQuiet_nil ?_
      rintro _ ⟨y, rfl⟩
      go_wp2_with fail
      go_ret
      exact ⟨retI (by rw [HV.out]), below_trans HB2.out y.bel⟩
    · have i2 : inP r 0 (q - 1) = false := by unfold inP; simp; omega
      have I2 := Lib.hid i2
      have hv := HO.out (by omega)
      have HV := Lib.hid hv
      clear i2 hv
      go_wp2_with fail
      refine (rin_any seat 0 (s - 1) _).mono ?_
      rintro e w' ⟨rfl, rfl⟩
      rw [I1.out]
      go_wp2_with fail
      refine (rin_any r 0 (q - 1) _).mono ?_
      rintro e w' ⟨rfl, rfl⟩
      rw [I2.out]
      go_wp2_with fail
      go_ret
      exact ⟨retI (by rw [HV.out]), hb02⟩
  · have i1 : inP seat 0 (s - 1) = false := by unfold inP; simp; omega
    have I1 := Lib.hid i1
    have hv := HO.out (by omega)
    have HV := Lib.hid hv
    clear i1 hv
    go_wp2_with fail
    refine (rin_any seat 0 (s - 1) _).mono ?_
    rintro e w' ⟨rfl, rfl⟩
    rw [I1.out]
    go_wp2_with fail
    go_ret
    exact ⟨retI (by rw [HV.out]), hb02⟩

set_option maxHeartbeats 2000000 in
theorem rplace_lay (X : Array Value) (s t g seat r i : Int) (hsz : X.size = 25) (h0 : X[0]? = some (.int .i64 s)) (h4 : X[4]? = some (.int .i64 t)) (h17 : X[17]? = some (.int .i64 g)) (hs : 1 ≤ s ∧ s ≤ 8) (ht : t ≤ 64) (hg : 0 ≤ g ∧ g ≤ 100000) (w : World) :
    Calls Try.prog 13 #[.agg X, .int .i64 seat, .int .i64 r, .int .i64 i] w fun e w' => e = .returned (.int .i64 (placeP (ringP s t g seat r) (sizeP r) i)) ∧ Below w.heap.size w w' := by
  have hbk : Blk (w.alloc (Obj.cells X 26)) w.heap.size 26 X := Blk.made w _ _
  have hb : Below w.heap.size w (w.alloc (Obj.cells X 26)) := (Below.refl _ w).alloc (Nat.le_refl _) _
  have hra : Hid (World.rangeAt (w.alloc (Obj.cells X 26)) w.heap.size 0 X.toList) := Lib.hid fun j v hv => by
    rw [Nat.zero_add, hbk.cell]; simpa using hv
  have hi2 : Hid ((Try.prog.info? 26).map (·.size) = some X.toList.length) := Lib.hid (by rw [Array.length_toList, hsz]; exact lay25)
  have HPL := Lib.hid fun w => rring_lay X s t g seat r hsz h0 h4 h17 hs ht hg w
  have HSZ := Lib.hid fun w => rsize_any r w
  have HB := Lib.hid hb
  have hrl := ring_le s t g seat r hs hg
  have hsl := size_le r
  clear hbk hb hsz h0 h4 h17 hs hg ht
  obtain ⟨b, hbv⟩ : ∃ b, ringP s t g seat r = b := ⟨_, rfl⟩
  obtain ⟨z, hzv⟩ : ∃ z, sizeP r = z := ⟨_, rfl⟩
  rw [hbv] at HPL hrl ⊢
  rw [hzv] at HSZ hsl ⊢
  clear hbv hzv
  have HQ : Hid (placeP b z i = if b < 0 ∨ z ≤ 0 ∨ i < 0 then -1 else b + i % z) := Lib.hid rfl
  by_cases q1 : b < 0
  · go_enter Try.func13, Try.ntmps13
    go_wp2_with (with_reducible (show wpList _ _ _ ({ dst := _, op := Op.load 26 _, type := _, pos := _, after := _, guard := none } :: _) _ _); refine wpList_load_mid rfl 26 _ rfl w.heap.size 0 rfl X.toList _ hra.out layFields rfl hi2.out ?_)
    refine (HPL.out _).mono ?_
    rintro e w2 ⟨rfl, hb2⟩
    go_wp2_with fail
    refine (HSZ.out _).mono ?_
    rintro e w' ⟨rfl, rfl⟩
    go_wp2_with fail
    go_ret
    exact ⟨retI (by rw [HQ.out, if_pos (by omega)]), HB.out.trans (hb2.mono HB.out.size)⟩
  by_cases q2 : z = 0
  · subst q2
    go_enter Try.func13, Try.ntmps13
    go_wp2_with (with_reducible (show wpList _ _ _ ({ dst := _, op := Op.load 26 _, type := _, pos := _, after := _, guard := none } :: _) _ _); refine wpList_load_mid rfl 26 _ rfl w.heap.size 0 rfl X.toList _ hra.out layFields rfl hi2.out ?_)
    refine (HPL.out _).mono ?_
    rintro e w2 ⟨rfl, hb2⟩
    go_wp2_with fail
    refine (HSZ.out _).mono ?_
    rintro e w' ⟨rfl, rfl⟩
    go_wp2_with fail
    go_ret
    exact ⟨retI (by rw [HQ.out, if_pos (by omega)]), HB.out.trans (hb2.mono HB.out.size)⟩
  have z0 : (z == 0) = false := by simpa using q2
  by_cases q3 : i < 0
  · go_enter Try.func13, Try.ntmps13
    go_wp2_with (with_reducible (show wpList _ _ _ ({ dst := _, op := Op.load 26 _, type := _, pos := _, after := _, guard := none } :: _) _ _); refine wpList_load_mid rfl 26 _ rfl w.heap.size 0 rfl X.toList _ hra.out layFields rfl hi2.out ?_)
    refine (HPL.out _).mono ?_
    rintro e w2 ⟨rfl, hb2⟩
    go_wp2_with fail
    refine (HSZ.out _).mono ?_
    rintro e w' ⟨rfl, rfl⟩
    go_wp2_with fail
    go_ret
    exact ⟨retI (by rw [HQ.out, if_pos (by omega)]), HB.out.trans (hb2.mono HB.out.size)⟩
  obtain ⟨R, hR⟩ : ∃ R, i % z = R := ⟨_, rfl⟩
  have hR2 : 0 ≤ R ∧ R < z := by rw [← hR]; exact ⟨Int.emod_nonneg _ (by omega), Int.emod_lt_of_pos _ (by omega)⟩
  have hT : Int.tmod i z = R := by rw [Int.tmod_eq_emod_of_nonneg (by omega), hR]
  rw [hR] at HQ
  clear hR
  have hz0 : z ≠ 0 := by omega
  have hw1 : wrap64 R = R := by unfold wrap64; omega
  have HZ := Lib.hid q2
  go_enter Try.func13, Try.ntmps13
  go_wp2_with (with_reducible (show wpList _ _ _ ({ dst := _, op := Op.load 26 _, type := _, pos := _, after := _, guard := none } :: _) _ _); refine wpList_load_mid rfl 26 _ rfl w.heap.size 0 rfl X.toList _ hra.out layFields rfl hi2.out ?_)
  refine (HPL.out _).mono ?_
  rintro e w2 ⟨rfl, hb2⟩
  go_wp2_with fail
  refine (HSZ.out _).mono ?_
  rintro e w' ⟨rfl, rfl⟩
  go_wp2_with fail
  go_ret
  exact ⟨retI (by rw [HQ.out, if_neg (by omega)]), HB.out.trans (hb2.mono HB.out.size)⟩

def rfitsP (b z top bottom : Int) : Bool := decide (0 ≤ b) && (decide (0 < z) && (decide (0 ≤ top) && (decide (top ≤ bottom) && decide (bottom - top ≤ z))))

set_option maxHeartbeats 2000000 in
theorem rfits_lay (X : Array Value) (s t g seat r top bottom : Int) (hsz : X.size = 25) (h0 : X[0]? = some (.int .i64 s)) (h4 : X[4]? = some (.int .i64 t)) (h17 : X[17]? = some (.int .i64 g)) (hs : 1 ≤ s ∧ s ≤ 8) (ht : t ≤ 64) (hg : 0 ≤ g ∧ g ≤ 100000)
    (ht1 : -9223372036854775808 ≤ top ∧ top ≤ 9223372036854775807) (hb1 : -9223372036854775808 ≤ bottom ∧ bottom ≤ 9223372036854775807) (w : World) :
    Calls Try.prog 26 #[.agg X, .int .i64 seat, .int .i64 r, .int .i64 top, .int .i64 bottom] w fun e w' => e = .returned (.bool (rfitsP (ringP s t g seat r) (sizeP r) top bottom)) ∧ Below w.heap.size w w' := by
  have hbk : Blk (w.alloc (Obj.cells X 26)) w.heap.size 26 X := Blk.made w _ _
  have hb : Below w.heap.size w (w.alloc (Obj.cells X 26)) := (Below.refl _ w).alloc (Nat.le_refl _) _
  have hra : Hid (World.rangeAt (w.alloc (Obj.cells X 26)) w.heap.size 0 X.toList) := Lib.hid fun j v hv => by
    rw [Nat.zero_add, hbk.cell]; simpa using hv
  have hi2 : Hid ((Try.prog.info? 26).map (·.size) = some X.toList.length) := Lib.hid (by rw [Array.length_toList, hsz]; exact lay25)
  have HPL := Lib.hid fun w => rring_lay X s t g seat r hsz h0 h4 h17 hs ht hg w
  have HSZ := Lib.hid fun w => rsize_any r w
  have HB := Lib.hid hb
  clear hbk hb hsz h0 h4 h17 hs hg ht
  obtain ⟨b, hbv⟩ : ∃ b, ringP s t g seat r = b := ⟨_, rfl⟩
  obtain ⟨z, hzv⟩ : ∃ z, sizeP r = z := ⟨_, rfl⟩
  rw [hbv] at HPL ⊢
  rw [hzv] at HSZ ⊢
  clear hbv hzv
  obtain ⟨E, hE⟩ : ∃ E, rfitsP b z top bottom = E := ⟨_, rfl⟩
  rw [hE]
  have HE := Lib.hid hE
  clear hE
  by_cases q1 : 0 ≤ b
  · by_cases q2 : 0 < z
    · by_cases q3 : 0 ≤ top
      · by_cases q4 : top ≤ bottom
        · have hE := HE.out
          unfold rfitsP at hE
          simp only [q1, q2, q3, q4, decide_true, Bool.true_and] at hE
          have HF := Lib.hid hE
          clear hE
          by_cases q5 : bottom - top ≤ z
          all_goals
            go_enter Try.func26, Try.ntmps26
            go_wp2_with (with_reducible (show wpList _ _ _ ({ dst := _, op := Op.load 26 _, type := _, pos := _, after := _, guard := none } :: _) _ _); refine wpList_load_mid rfl 26 _ rfl w.heap.size 0 rfl X.toList _ hra.out layFields rfl hi2.out ?_)
            refine (HPL.out _).mono ?_
            rintro e w2 ⟨rfl, hb2⟩
            go_wp2_with fail
            refine (HSZ.out _).mono ?_
            rintro e w' ⟨rfl, rfl⟩
            go_wp2_with fail
            go_ret
            exact ⟨by rw [← HF.out]; simp [q5], HB.out.trans (hb2.mono HB.out.size)⟩
        · have HF : Hid (E = false) := Lib.hid (by rw [← HE.out]; unfold rfitsP; simp [q4])
          go_enter Try.func26, Try.ntmps26
          go_wp2_with (with_reducible (show wpList _ _ _ ({ dst := _, op := Op.load 26 _, type := _, pos := _, after := _, guard := none } :: _) _ _); refine wpList_load_mid rfl 26 _ rfl w.heap.size 0 rfl X.toList _ hra.out layFields rfl hi2.out ?_)
          refine (HPL.out _).mono ?_
          rintro e w2 ⟨rfl, hb2⟩
          go_wp2_with fail
          refine (HSZ.out _).mono ?_
          rintro e w' ⟨rfl, rfl⟩
          go_wp2_with fail
          go_ret
          exact ⟨by rw [HF.out]; simp [q4], HB.out.trans (hb2.mono HB.out.size)⟩
      · have HF : Hid (E = false) := Lib.hid (by rw [← HE.out]; unfold rfitsP; simp [q3])
        go_enter Try.func26, Try.ntmps26
        go_wp2_with (with_reducible (show wpList _ _ _ ({ dst := _, op := Op.load 26 _, type := _, pos := _, after := _, guard := none } :: _) _ _); refine wpList_load_mid rfl 26 _ rfl w.heap.size 0 rfl X.toList _ hra.out layFields rfl hi2.out ?_)
        refine (HPL.out _).mono ?_
        rintro e w2 ⟨rfl, hb2⟩
        go_wp2_with fail
        refine (HSZ.out _).mono ?_
        rintro e w' ⟨rfl, rfl⟩
        go_wp2_with fail
        go_ret
        exact ⟨by rw [HF.out]; simp [q3], HB.out.trans (hb2.mono HB.out.size)⟩
    · have HF : Hid (E = false) := Lib.hid (by rw [← HE.out]; unfold rfitsP; simp [q2])
      go_enter Try.func26, Try.ntmps26
      go_wp2_with (with_reducible (show wpList _ _ _ ({ dst := _, op := Op.load 26 _, type := _, pos := _, after := _, guard := none } :: _) _ _); refine wpList_load_mid rfl 26 _ rfl w.heap.size 0 rfl X.toList _ hra.out layFields rfl hi2.out ?_)
      refine (HPL.out _).mono ?_
      rintro e w2 ⟨rfl, hb2⟩
      go_wp2_with fail
      refine (HSZ.out _).mono ?_
      rintro e w' ⟨rfl, rfl⟩
      go_wp2_with fail
      go_ret
      exact ⟨by rw [HF.out]; simp [q2], HB.out.trans (hb2.mono HB.out.size)⟩
  · have HF : Hid (E = false) := Lib.hid (by rw [← HE.out]; unfold rfitsP; simp [q1])
    go_enter Try.func26, Try.ntmps26
    go_wp2_with (with_reducible (show wpList _ _ _ ({ dst := _, op := Op.load 26 _, type := _, pos := _, after := _, guard := none } :: _) _ _); refine wpList_load_mid rfl 26 _ rfl w.heap.size 0 rfl X.toList _ hra.out layFields rfl hi2.out ?_)
    refine (HPL.out _).mono ?_
    rintro e w2 ⟨rfl, hb2⟩
    go_wp2_with fail
    refine (HSZ.out _).mono ?_
    rintro e w' ⟨rfl, rfl⟩
    go_wp2_with fail
    go_ret
    exact ⟨by rw [HF.out]; simp [q1], HB.out.trans (hb2.mono HB.out.size)⟩
end Go.Proofs.Ytabgpoagnofifaa
