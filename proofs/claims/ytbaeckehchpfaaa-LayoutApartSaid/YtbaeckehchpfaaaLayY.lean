/-
  LAYOUT: the document's Ring, Ints.
-/
import Derived.Test.YtbaeckehchpfaaaRows
import Derived.ProofKit
import Derived.Test.YtbaeckehchpfaaaLayQ
import Derived.Test.YtbaeckehchpfaaaLayJ
import Derived.Test.YtbaeckehchpfaaaAfter
namespace Go.Proofs.Ytbaeckehchpfaaa
open Go.ChangeShapes Go.WideShapes Go.ChangeAt Go.RowKit

set_option maxHeartbeats 2000000 in
theorem rring_lay (X : Array Value) (s t g seat r : Int) (hsz : X.size = 25) (h0 : X[0]? = some (.int .i64 s)) (h4 : X[4]? = some (.int .i64 t)) (h17 : X[17]? = some (.int .i64 g)) (hs : 1 ≤ s ∧ s ≤ 8) (ht : t ≤ 64) (hg : 0 ≤ g ∧ g ≤ 100000) (w : World) :
    Calls Try.prog 44 #[.agg X, .int .i64 seat, .int .i64 r] w fun e w' => e = .returned (.int .i64 (ringV s t g seat r)) ∧ Below w.heap.size w w' := by
  have hbk : Blk (w.alloc (Obj.cells X 26)) w.heap.size 26 X := Blk.made w _ _
  have hb : Below w.heap.size w (w.alloc (Obj.cells X 26)) := (Below.refl _ w).alloc (Nat.le_refl _) _
  have hra : Hid (World.rangeAt (w.alloc (Obj.cells X 26)) w.heap.size 0 X.toList) := Lib.hid fun j v hv => by
    rw [Nat.zero_add, hbk.cell]; simpa using hv
  have hi2 : Hid ((Try.prog.info? 26).map (·.size) = some X.toList.length) := Lib.hid (by rw [Array.length_toList, hsz]; exact lay25)
  have hout := ringV_out s t g seat r
  have hin := ringV_in s t g seat r
  obtain ⟨q, hq⟩ : ∃ q, ringsP t = q := ⟨_, rfl⟩
  have hq5 : 1 ≤ q ∧ q ≤ 5 := hq ▸ rings_le t
  have HRL : Hid (∀ w, Calls Try.prog 14 #[.agg X] w fun e w' => e = .returned (.int .i64 q) ∧ Below w.heap.size w w') := Lib.hid (hq ▸ rrings_lay X t h4 ht)
  obtain ⟨Z, hZ⟩ : ∃ Z, ringV s t g seat r = Z := ⟨_, rfl⟩
  rw [hq, hZ] at hin hout
  rw [hZ]
  have HK := Lib.hid hbk
  have HB := Lib.hid hb
  have H0 := Lib.hid h0
  have H17 := Lib.hid h17
  have HO := Lib.hid hout
  have HI := Lib.hid hin
  clear hbk hb hsz h0 h4 h17 hq hZ hout hin
  go_enter Try.func44, Try.ntmps44
  go_wp2_with (with_reducible (show wpList _ _ _ ({ dst := _, op := Op.load 26 _, type := _, pos := _, after := _, guard := none } :: _) _ _); refine wpList_load_mid rfl 26 _ rfl w.heap.size 0 rfl X.toList _ hra.out layFields rfl hi2.out ?_)
  refine (HRL.out _).mono ?_
  rintro e w2 ⟨rfl, hb2⟩
  have hb02 := HB.out.trans (hb2.mono HB.out.size)
  have HK2 := HK.out.later hb2
  have hlt := HK2.lt
  have k0 : w2.cell? ⟨w.heap.size, 0, none⟩ = some (.int .i64 s) := (HK2.cell 0).trans H0.out
  by_cases h1 : 0 ≤ seat ∧ seat < s
  · have i1 : inP seat 0 (s - 1) = true := by unfold inP; simp; omega
    have I1 := Lib.hid i1
    clear i1
    by_cases h2 : 0 ≤ r ∧ r < q
    · have i2 : inP r 0 (q - 1) = true := by unfold inP; simp; omega
      have I2 := Lib.hid i2
      clear i2
      go_wp2_with fail
      refine (rin_any seat 0 (s - 1) _).mono ?_
      rintro e w' ⟨rfl, rfl⟩
      rw [I1.out]
      go_wp2_with fail
      refine (rin_any r 0 (q - 1) _).mono ?_
      rintro e w' ⟨rfl, rfl⟩
      rw [I2.out]
      go_wp2_with fail
      have x17 : ∀ y : After w', y.w.cell? ⟨w.heap.size, 17, none⟩ = some (.int .i64 g) := fun y => (y.cell hlt).trans ((HK2.cell 17).trans H17.out)
      have hcq := cells_le q (by omega)
      have hcr := cells_le r (by omega)
      obtain ⟨c, hc⟩ : ∃ c, cellsP q = c := ⟨_, rfl⟩
      obtain ⟨d, hd⟩ : ∃ c, cellsP r = c := ⟨_, rfl⟩
      have HR1 : Hid (∀ w, Calls Try.prog 28 #[.int .i64 q] w fun e w' => e = .returned (.int .i64 c) ∧ w' = w) := Lib.hid fun w => hc ▸ rroom_any q (by omega) (by omega) w
      have HR2 : Hid (∀ w, Calls Try.prog 28 #[.int .i64 r] w fun e w' => e = .returned (.int .i64 d) ∧ w' = w) := Lib.hid fun w => hd ▸ rroom_any r (by omega) (by omega) w
      obtain ⟨p, hp⟩ : ∃ p, seat * c = p := ⟨_, rfl⟩
      have hv := HI.out h1.1 h1.2 h2.1 h2.2
      rw [hc, hd, hp] at hv
      rw [hc] at hcq
      rw [hd] at hcr
      have hp1 : 0 ≤ p ∧ p ≤ 1000 := by
        rw [← hp]
        exact ⟨Int.mul_nonneg h1.1 hcq.1, by have := Int.mul_le_mul (show seat ≤ 8 by omega) hcq.2 hcq.1 (by omega); omega⟩
      have e1 : IntKind.i64.wrap (seat * c) = p := by rw [hp, IntKind.wrap_i64]; omega
      have e2 : IntKind.i64.wrap (g + p) = g + p := by rw [IntKind.wrap_i64]; omega
      have e3 : IntKind.i64.wrap (g + p + d) = g + p + d := by rw [IntKind.wrap_i64]; omega
      have HV := Lib.hid hv
      have HB2 := Lib.hid hb02
      clear hc hd hp hv hb02
      refine wp_region_after (by kernel_rfl) (by kernel_rfl) ?_
      repeat (go_big_quiet_step (first
        | (go_at_call_of 28 q; exact calls_after ((HR1.out _).mono fun e w' ⟨h1, h2⟩ => ⟨h1, h2 ▸ Below.refl _ _⟩))
        | (go_at_call_of 28 r; exact calls_after ((HR2.out _).mono fun e w' ⟨h1, h2⟩ => ⟨h1, h2 ▸ Below.refl _ _⟩))))
      refine wpQuiet_nil ?_
      rintro _ ⟨y, rfl⟩
      go_wp2_with fail
      go_ret
      exact ⟨retI (by rw [HV.out]), below_trans HB2.out y.bel⟩
    · have i2 : inP r 0 (q - 1) = false := by unfold inP; simp; omega
      have I2 := Lib.hid i2
      have hv := HO.out (by omega)
      have HV := Lib.hid hv
      clear i2 hv
      go_wp2_with fail
      refine (rin_any seat 0 (s - 1) _).mono ?_
      rintro e w' ⟨rfl, rfl⟩
      rw [I1.out]
      go_wp2_with fail
      refine (rin_any r 0 (q - 1) _).mono ?_
      rintro e w' ⟨rfl, rfl⟩
      rw [I2.out]
      go_wp2_with fail
      go_ret
      exact ⟨retI (by rw [HV.out]), hb02⟩
  · have i1 : inP seat 0 (s - 1) = false := by unfold inP; simp; omega
    have I1 := Lib.hid i1
    have hv := HO.out (by omega)
    have HV := Lib.hid hv
    clear i1 hv
    go_wp2_with fail
    refine (rin_any seat 0 (s - 1) _).mono ?_
    rintro e w' ⟨rfl, rfl⟩
    rw [I1.out]
    go_wp2_with fail
    go_ret
    exact ⟨retI (by rw [HV.out]), hb02⟩


theorem bel_drewN {B : Nat} {w x : World} (h : Below B w x) : ∀ n, Below B w (x.drewN n)
  | 0 => h
  | n + 1 => (bel_drewN h n).drew

/-- both rows hold the same numbers -/
theorem ints_same (g1 g2 n : Nat) (t1 : TypeId) (L : Array Value) (hL : IntCells L n) (hn : n ≤ 1000) (w : World) (h1 : Blk w g1 t1 L) (h2 : Blk w g2 t1 L) :
    Calls Try.prog 15 #[.slice (some ⟨g1, 0, none⟩) n n, .slice (some ⟨g2, 0, none⟩) n n] w fun e w' => e = .returned (.bool true) ∧ Below w.heap.size w w' := by
  have HL := Lib.hid hL
  obtain ⟨o1, ho1⟩ : ∃ o : Nat, 0 = o := ⟨_, rfl⟩
  have H1 : Hid (∀ wx, Below w.heap.size w wx → ∀ k a, L[k]? = some (.int .i64 a) → wx.cell? ⟨g1, o1 + k, none⟩ = some (.int .i64 a)) := Lib.hid fun wx hx k a ha => by
    rw [← ho1, Nat.zero_add, (h1.later hx).cell]; exact ha
  have H2 : Hid (∀ wx, Below w.heap.size w wx → ∀ k a, L[k]? = some (.int .i64 a) → wx.cell? ⟨g2, o1 + k, none⟩ = some (.int .i64 a)) := Lib.hid fun wx hx k a ha => by
    rw [← ho1, Nat.zero_add, (h2.later hx).cell]; exact ha
  rw [ho1]
  clear hL h1 h2 ho1
  go_enter Try.func15, Try.ntmps15
  go_wp2_with fail
  go_loopw [5] (fun i wr => ∃ k : Nat, i = .int .i64 k ∧ k ≤ n ∧ Below w.heap.size w wr) (fun i _ => n - (intOf i).toNat)
  case atStart => exact ⟨0, rfl, Nat.zero_le _, Below.refl _ _⟩
  case round =>
    obtain ⟨k, rfl, hk, hb⟩ := hrel
    rename_i wr
    by_cases hlt : k < n
    · obtain ⟨a, ha⟩ := HL.out.2 k hlt
      have q0 := H1.out wr hb k a ha
      have q1 := H2.out wr hb k a ha
      have hlt2 : (k : Int) < n := by omega
      have hk0 : (0 : Int) ≤ k := by omega
      have HB := Lib.hid hb
      clear ha hb
      go_wp2_with fail
      go_quiet (fail)
      go_wp2_with fail
      go_roundw
      case rel => exact ⟨k + 1, by simp, by omega, bel_drewN HB.out _⟩
      case measure => simp [intOf]; omega
    · have hd : ¬ (k : Int) < n := by omega
      go_wp2_with fail
      go_ret
      exact ⟨rfl, hb⟩
end Go.Proofs.Ytbaeckehchpfaaa
