/-
  WIRE: the walk of the law WireSums.
-/
import Derived.Test.YtljblkhjpnipgaaWireI
import Derived.Test.YtljblkhjpnipgaaWireT
namespace Go.Proofs.Ytljblkhjpnipgaa
open Go.ChangeShapes Go.WideShapes Go.ChangeAt Go.RowKit Go.Lib

/-- how the two openings end, told at once -/
theorem OpenPost.both {w : World} {bs : List Int} {e : Ending} {w' : World} (h : OpenPost w bs e w') :
    ∃ inner at_ er q cq, (openF bs = none → inner = [] ∧ at_ = 0 ∧ er = 3) ∧ (∀ x m, openF bs = some (x, m) → inner = x ∧ at_ = m ∧ er = 0) ∧ inner.length ≤ bs.length ∧ e = .returned (.tuple #[.slice q inner.length cq, .int .i64 ((at_ : Nat) : Int), .int .i64 er]) ∧ Byts w' q inner ∧ Below w.heap.size w w' := by
  obtain ⟨hb, ⟨h1, h2⟩ | ⟨inner, at_, q, cq, h1, h2, h3, h4, h5⟩⟩ := h
  · exact ⟨[], 0, 3, none, 0, fun _ => ⟨rfl, rfl, rfl⟩, (fun x m h => by rw [h1] at h; cases h), by simp, h2, Byts.nil _ _, hb⟩
  · exact ⟨inner, at_, 0, q, cq, (fun h => by rw [h1] at h; cases h), (fun x m h => by rw [h1] at h; injection h with h; injection h with a b; exact ⟨a, b, rfl⟩), h3, h4, h5, hb⟩

set_option maxHeartbeats 2000000 in
theorem walkWireSums (a0 : Option Addr) (len0 cap0 : Nat) (z0 : List Int) (w : World) (h0 : IsRow .u8 w a0 len0 cap0 z0) :
    Calls Try.prog 11 #[.slice a0 len0 cap0] w fun e w' => e = .returned (.bool true) ∧ Below w.heap.size w w' := by
  obtain ⟨xs, hx, rfl, hcap, hp⟩ := row8 h0
  clear h0
  have HX := Lib.hid hx
  clear hx
  by_cases hlx : xs.length ≤ 1000
  · have g1 : ¬ ((1000 : Int) < xs.length) := by omega
    go_enter Try.func11, Try.ntmps11
    go_wp2_with fail
    refine (Open_any a0 xs cap0 w HX.out (by omega) hcap hp).mono ?_
    intro e w1 h
    obtain ⟨in1, at1, er1, q1, cq1, hA1, hB1, hl1, rfl, x1, b1⟩ := h.both
    clear h
    have X1 := Lib.hid x1
    clear x1
    go_wp2_with fail
    refine (rOpen_any a0 xs cap0 w1 (HX.out.later b1) (by omega) hcap).mono ?_
    intro e w2 h
    obtain ⟨in2, at2, er2, q2, cq2, hA2, hB2, hl2, rfl, x2, b2⟩ := h.both
    clear h
    have hsame : in2 = in1 ∧ at2 = at1 ∧ er2 = er1 := by
      cases ho : openF xs with
      | none => obtain ⟨h1, h2, h3⟩ := hA1 ho; obtain ⟨h4, h5, h6⟩ := hA2 ho; exact ⟨h4.trans h1.symm, h5.trans h2.symm, h6.trans h3.symm⟩
      | some r => obtain ⟨h1, h2, h3⟩ := hB1 r.1 r.2 ho; obtain ⟨h4, h5, h6⟩ := hB2 r.1 r.2 ho; exact ⟨h4.trans h1.symm, h5.trans h2.symm, h6.trans h3.symm⟩
    obtain ⟨rfl, rfl, rfl⟩ := hsame
    have X2 := Lib.hid x2
    have Y2 := Lib.hid (X1.out.later b2)
    have b12 := below_trans b1 b2
    clear x2 hA1 hA2 hB1 hB2
    go_wp2_with fail
    refine (alive_any w2).mono ?_
    rintro e w3 ⟨rfl, b3⟩
    go_wp2_with fail
    refine (Sum_any a0 xs cap0 w3 (HX.out.later (below_trans b12 b3)) (by omega)).mono ?_
    rintro e w4 ⟨rfl, b4⟩
    have b24 := below_trans b3 b4
    go_wp2_with fail
    refine (rSum_any a0 xs cap0 w4 (HX.out.later (below_trans b12 b24)) (by omega)).mono ?_
    rintro e w5 ⟨rfl, b5⟩
    have b25 := below_trans b24 b5
    go_wp2_with fail
    refine (Seal_any a0 xs cap0 w5 (HX.out.later (below_trans b12 b25)) (by omega) hp).mono ?_
    intro e w6 h
    obtain ⟨p6, c6, rfl, x6, -, -, b6⟩ := h.slice rfl rfl
    clear h
    have b26 := below_trans b25 b6
    have X6 := Lib.hid x6
    have hsl : (sealF xs).length ≤ 2000 := by
      have hs := sumF_in xs
      have h1 := putF_len10 (zig_lt (n := xs.length) (by omega) (by omega))
      have h2 := putF_len10 (zig_lt (n := sumF xs) (by omega) (by omega))
      unfold sealF
      simp only [List.length_append]; omega
    generalize hse : sealF xs = se at *
    have HSE := Lib.hid hse
    clear x6 hse
    go_wp2_with fail
    refine (rSeal_any a0 xs cap0 w6 (HX.out.later (below_trans b12 b26)) (by omega) hp).mono ?_
    intro e w7 h
    obtain ⟨p7, c7, rfl, x7, -, -, b7⟩ := h.slice HSE.out rfl
    clear h
    have b27 := below_trans b26 b7
    go_wp2_with fail
    refine (rSame_any p6 p7 se se c6 c7 w7 (X6.out.later b7) x7 (by omega) (by omega)).mono ?_
    rintro e w8 ⟨rfl, b8⟩
    rw [show decide (se = se) = true from by simp]
    have b28 := below_trans b27 b8
    go_wp2_with fail
    refine (rSame_any q1 q2 in2 in2 cq1 cq2 w8 (Y2.out.later b28) (X2.out.later b28) (by omega) (by omega)).mono ?_
    rintro e w9 ⟨rfl, b9⟩
    rw [show decide (in2 = in2) = true from by simp]
    go_wp2_with fail
    go_ret
    exact ⟨by first | rfl | (simp; done), below_trans b12 (below_trans b28 b9)⟩
  · have g1 : (1000 : Int) < xs.length := by omega
    go_enter Try.func11, Try.ntmps11
    go_wp2_with fail
    refine (alive_any w).mono ?_
    rintro e w1 ⟨rfl, b1⟩
    go_wp2_with fail
    go_ret
    exact ⟨rfl, b1⟩

end Go.Proofs.Ytljblkhjpnipgaa
