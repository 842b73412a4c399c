/-
  WIRE: the walk of the law WireRows.
-/
import Derived.Test.YtljblkhjpnipgaaWireI
import Derived.Test.YtljblkhjpnipgaaWireR
namespace Go.Proofs.Ytljblkhjpnipgaa
open Go.ChangeShapes Go.WideShapes Go.ChangeAt Go.RowKit Go.Lib

theorem numsF_len {l : List Int} (h : ∀ n ∈ l, In64 n) (hl : l.length ≤ 1000000) : 1 ≤ (numsF l).length ∧ (numsF l).length ≤ 10 * l.length + 10 := by
  have h1 := putF_len10 (zig_lt (n := l.length) (by omega) (by omega))
  have h2 := rowF_len l h
  unfold numsF
  rw [List.length_append]; omega

set_option maxHeartbeats 2000000 in
theorem walkWireRows (a0 : Option Addr) (len0 cap0 : Nat) (z0 : List Int) (a1 : Option Addr) (len1 cap1 : Nat) (z1 : List Int) (w : World) (h0 : IsRow .i64 w a0 len0 cap0 z0) (h1 : IsRow .u8 w a1 len1 cap1 z1) :
    Calls Try.prog 8 #[.slice a0 len0 cap0, .slice a1 len1 cap1] w fun e w' => e = .returned (.bool true) ∧ Below w.heap.size w w' := by
  obtain ⟨xs, hx, rfl, hcap, hp⟩ := row8 h1
  obtain ⟨l, hx0, rfl⟩ := row64 h0
  clear h1 h0
  have HX := Lib.hid hx
  have HL := Lib.hid hx0
  clear hx hx0
  by_cases hls : l.length ≤ 300
  · have g0 : ¬ ((300 : Int) < l.length) := by omega
    by_cases hlx : xs.length ≤ 1000
    · have g1 : ¬ ((1000 : Int) < xs.length) := by omega
      have hln := numsF_len HL.out.rng (by omega)
      have hr := numsG_whole l xs HL.out.rng (by omega)
      have hsh := numsG_short l [] HL.out.rng (by omega) (k := (numsF l).length - 1) (by omega)
      rw [List.append_nil] at hsh
      generalize hbs : numsF l = bs at *
      have HBS := Lib.hid hbs
      have HR := Lib.hid hr
      have HSH := Lib.hid hsh
      have hbpos : 1 ≤ bs.length := by omega
      have hbmax : bs.length ≤ 4000 := by omega
      clear hbs hr hsh hln
      go_enter Try.func8, Try.ntmps8
      go_wp2_with fail
      refine (Nums_any a0 l cap0 w HL.out (by omega)).mono ?_
      intro e w1 h
      obtain ⟨p1, c1, rfl, x1, hc1, -, b1⟩ := h.slice HBS.out rfl
      clear h
      obtain ⟨b, off, rfl, -, -⟩ := x1.cells 0 (by omega)
      have X1 := Lib.hid x1
      clear x1
      go_wp2_with (at_builtin; refine wpList_append_full rfl (.tmp 29) (.tmp 30) rfl b off bs rfl X1.out a1 xs cap1 rfl (HX.out.later b1) hp (by omega) ?_; intro q c w2 x2 hc2 hq2 b2)
      rw [List.length_append] at hc2
      have hG := GetNums_any q (bs ++ xs) c w2 ⟨x2, by simp; omega, by simp; omega, hq2⟩
      unfold NumsPost at hG
      rw [HR.out, List.length_append] at hG
      refine hG.mono ?_
      clear hG
      rintro e w3 ⟨b3, ⟨hr, -⟩ | ⟨l3, at3, g3, hr, -, rfl, x3⟩⟩
      · cases hr
      injection hr with hr
      injection hr with hr1 hr2
      subst hr1 hr2
      have bb := below_trans b2 b3
      have X3 := Lib.hid (X1.out.later bb)
      have I3 := Lib.hid x3
      replace bb := below_trans b1 bb
      clear b1 b2 b3 x2 x3
      go_wp2_with fail
      all_goals (
        have hG2 := GetNums_any (some ⟨b, off, none⟩) (bs.take (bs.length - 1)) c1 w3 ⟨X3.out.take _, by simp; omega, by simp; omega, by simp⟩
        unfold NumsPost at hG2
        rw [HSH.out, List.length_take, Nat.min_eq_left (by omega)] at hG2
        try (rw [show bs.length - 1 = 0 from by omega] at hG2)
        refine hG2.mono ?_
        clear hG2
        rintro e w4 ⟨b4, ⟨-, rfl⟩ | ⟨l4, at4, g4, hr, -, -⟩⟩
        rotate_left
        · cases hr
        have X4 := Lib.hid (X3.out.later b4)
        have I4 := Lib.hid (I3.out.later b4)
        have bb4 := below_trans bb b4
        go_wp2_with fail
        refine (alive_any w4).mono ?_
        rintro e w5 ⟨rfl, b5⟩
        go_wp2_with fail
        refine (rNums_any a0 l cap0 w5 (HL.out.later (below_trans bb4 b5)) (by omega)).mono ?_
        intro e w6 h
        obtain ⟨p6, c6, rfl, x6, -, -, b6⟩ := h.slice HBS.out rfl
        clear h
        go_wp2_with fail
        refine (rSame_any (some ⟨b, off, none⟩) p6 bs bs c1 c6 w6 (X4.out.later (below_trans b5 b6)) x6 (by omega) (by omega)).mono ?_
        rintro e w7 ⟨rfl, b7⟩
        rw [show decide (bs = bs) = true from by simp]
        have b47 := below_trans b5 (below_trans b6 b7)
        go_wp2_with fail
        refine (rInts_any (some ⟨g3, 0, none⟩) a0 l l _ cap0 w7 (I4.out.later b47) (HL.out.later (below_trans bb4 b47)) (by omega) (by omega)).mono ?_
        rintro e w8 ⟨rfl, b8⟩
        rw [show decide (l = l) = true from by simp]
        go_wp2_with fail
        go_ret
        exact ⟨by first | rfl | (simp; done), below_trans bb4 (below_trans b47 b8)⟩)
    · have g1 : (1000 : Int) < xs.length := by omega
      go_enter Try.func8, Try.ntmps8
      go_wp2_with fail
      refine (alive_any w).mono ?_
      rintro e w1 ⟨rfl, b1⟩
      go_wp2_with fail
      go_ret
      exact ⟨rfl, b1⟩
  · have g0 : (300 : Int) < l.length := by omega
    go_enter Try.func8, Try.ntmps8
    go_wp2_with fail
    refine (alive_any w).mono ?_
    rintro e w1 ⟨rfl, b1⟩
    go_wp2_with fail
    go_ret
    exact ⟨rfl, b1⟩

end Go.Proofs.Ytljblkhjpnipgaa
