/-
  WIRE: the walk of the law WireGets.
-/
import Derived.Test.YtljblkhjpnipgaaWireI
import Derived.Test.YtljblkhjpnipgaaWireU
namespace Go.Proofs.Ytljblkhjpnipgaa
open Go.ChangeShapes Go.WideShapes Go.ChangeAt Go.RowKit Go.Lib

/-- how texts are got, told at once -/
theorem TextPost.both {w : World} {bs : List Int} {e : Ending} {w' : World} (h : TextPost w bs e w') :
    ∃ (s : ByteArray) (at_ : Nat) (er : Int), (runF bs = none → s = ByteArray.empty ∧ at_ = 0 ∧ er = 3) ∧ (∀ m n, runF bs = some (m, n) → s = strOfNums ((bs.drop m).take n) ∧ at_ = m + n ∧ er = 0) ∧ e = .returned (.tuple #[.string s, .int .i64 (at_ : Int), .int .i64 er]) ∧ Below w.heap.size w w' := by
  obtain ⟨hb, ⟨h1, h2⟩ | ⟨m, n, h1, h2, h3⟩⟩ := h
  · exact ⟨_, 0, 3, fun _ => ⟨rfl, rfl, rfl⟩, (fun x m h => by rw [h1] at h; cases h), h2, hb⟩
  · exact ⟨_, m + n, 0, (fun h => by rw [h1] at h; cases h), (fun x m h => by rw [h1] at h; injection h with h; injection h with a b; subst a b; exact ⟨rfl, rfl, rfl⟩), h3, hb⟩

set_option maxHeartbeats 2000000 in
theorem walkWireGets (a0 : Option Addr) (len0 cap0 : Nat) (z0 : List Int) (w : World) (h0 : IsRow .u8 w a0 len0 cap0 z0) :
    Calls Try.prog 4 #[.slice a0 len0 cap0] w fun e w' => e = .returned (.bool true) ∧ Below w.heap.size w w' := by
  obtain ⟨xs, hx, rfl, hcap, hp⟩ := row8 h0
  clear h0
  have HX := Lib.hid hx
  clear hx
  by_cases hlx : xs.length ≤ 1000
  · have g1 : ¬ ((1000 : Int) < xs.length) := by omega
    have h1 := fun w1 (b : Below w.heap.size w w1) => Get_any a0 xs cap0 w1 (HX.out.later b) (by omega)
    have h2 := fun w1 (b : Below w.heap.size w w1) => rGet_any a0 xs cap0 w1 (HX.out.later b) (by omega) hcap
    unfold GetPost at h1 h2
    generalize getF xs = g at *
    obtain ⟨n1, m1, e1⟩ := g
    simp only at h1 h2
    have H1 := Lib.hid h1
    have H2 := Lib.hid h2
    clear h1 h2
    go_enter Try.func4, Try.ntmps4
    go_wp2_with fail
    refine (H1.out w (Below.refl _ _)).mono ?_
    rintro e w1 ⟨rfl, b1⟩
    go_wp2_with fail
    refine (H2.out w1 b1).mono ?_
    rintro e w2 ⟨rfl, b2⟩
    have b02 := below_trans b1 b2
    go_wp2_with fail
    refine (GetText_any a0 xs cap0 w2 (HX.out.later b02) (by omega) hcap hp).mono ?_
    intro e w3 h
    obtain ⟨s3, at3, er3, hA3, hB3, rfl, b3⟩ := h.both
    clear h
    have b03 := below_trans b02 b3
    go_wp2_with fail
    refine (rGetText_any a0 xs cap0 w3 (HX.out.later b03) (by omega) hcap).mono ?_
    intro e w4 h
    obtain ⟨s4, at4, er4, hA4, hB4, rfl, b4⟩ := h.both
    clear h
    have hsame : s4 = s3 ∧ at4 = at3 ∧ er4 = er3 := by
      cases ho : runF xs with
      | none => obtain ⟨h1, h2, h3⟩ := hA3 ho; obtain ⟨h4, h5, h6⟩ := hA4 ho; exact ⟨h4.trans h1.symm, h5.trans h2.symm, h6.trans h3.symm⟩
      | some r => obtain ⟨h1, h2, h3⟩ := hB3 r.1 r.2 ho; obtain ⟨h4, h5, h6⟩ := hB4 r.1 r.2 ho; exact ⟨h4.trans h1.symm, h5.trans h2.symm, h6.trans h3.symm⟩
    obtain ⟨rfl, rfl, rfl⟩ := hsame
    have b04 := below_trans b03 b4
    clear hA3 hA4 hB3 hB4
    go_wp2_with fail
    refine (GetNums_any a0 xs cap0 w4 ⟨HX.out.later b04, by omega, hcap, hp⟩).mono ?_
    intro e w5 h
    obtain ⟨l5, at5, er5, q5, cq5, hA5, hB5, hl5, rfl, x5, b5⟩ := h.both (by omega)
    clear h
    have b05 := below_trans b04 b5
    have X5 := Lib.hid x5
    clear x5
    go_wp2_with fail
    refine (rGetNums_any a0 xs cap0 w5 ⟨HX.out.later b05, by omega, hcap, hp⟩).mono ?_
    rintro e w6 ⟨l6, at6, er6, q6, cq6, hA6, hB6, hl6, rfl, x6, b6⟩
    have hsame : l6 = l5 ∧ at6 = at5 ∧ er6 = er5 := by
      cases ho : numsG xs with
      | none => obtain ⟨h1, h2, h3⟩ := hA5 ho; obtain ⟨h4, h5, h6⟩ := hA6 ho; exact ⟨h4.trans h1.symm, h5.trans h2.symm, h6.trans h3.symm⟩
      | some r => obtain ⟨h1, h2, h3⟩ := hB5 r.1 r.2 ho; obtain ⟨h4, h5, h6⟩ := hB6 r.1 r.2 ho; exact ⟨h4.trans h1.symm, h5.trans h2.symm, h6.trans h3.symm⟩
    obtain ⟨rfl, rfl, rfl⟩ := hsame
    have b06 := below_trans b05 b6
    have X6 := Lib.hid x6
    have Y6 := Lib.hid (X5.out.later b6)
    clear x6 hA5 hA6 hB5 hB6
    go_wp2_with fail
    refine (alive_any w6).mono ?_
    rintro e w7 ⟨rfl, b7⟩
    have b07 := below_trans b06 b7
    go_wp2_with fail
    refine (rInts_any q5 q6 l6 l6 cq5 cq6 w7 (Y6.out.later b7) (X6.out.later b7) hl6 hl6).mono ?_
    rintro e w8 ⟨rfl, b8⟩
    rw [show decide (l6 = l6) = true from by simp]
    go_wp2_with fail
    go_ret
    exact ⟨by first | rfl | (simp; done), below_trans b07 b8⟩
  · have g1 : (1000 : Int) < xs.length := by omega
    go_enter Try.func4, Try.ntmps4
    go_wp2_with fail
    refine (alive_any w).mono ?_
    rintro e w1 ⟨rfl, b1⟩
    go_wp2_with fail
    go_ret
    exact ⟨rfl, b1⟩

end Go.Proofs.Ytljblkhjpnipgaa
