/-
  WIRE: the walk of the law WireTwo.
-/
import Derived.Test.YtljblkhjpnipgaaWireI
import Derived.Test.YtljblkhjpnipgaaWireR
namespace Go.Proofs.Ytljblkhjpnipgaa
open Go.ChangeShapes Go.WideShapes Go.ChangeAt Go.RowKit Go.Lib

theorem numsF_len2 {l : List Int} (h : ∀ n ∈ l, In64 n) (hl : l.length ≤ 1000000) : 1 ≤ (numsF l).length ∧ (numsF l).length ≤ 10 * l.length + 10 := by
  have h1 := putF_len10 (zig_lt (n := l.length) (by omega) (by omega))
  have h2 := rowF_len l h
  unfold numsF
  rw [List.length_append]; omega

set_option maxHeartbeats 2000000 in
theorem walkWireTwo (a0 : Option Addr) (len0 cap0 : Nat) (z0 : List Int) (a1 : Option Addr) (len1 cap1 : Nat) (z1 : List Int) (w : World) (h0 : IsRow .i64 w a0 len0 cap0 z0) (h1 : IsRow .i64 w a1 len1 cap1 z1) (s0 : len0 * 8 ≤ 140737488351232) (s1 : len1 * 8 ≤ 140737488351232) :
    Calls Try.prog 10 #[.slice a0 len0 cap0, .slice a1 len1 cap1] w fun e w' => e = .returned (.bool true) ∧ Below w.heap.size w w' := by
  obtain ⟨m, hx1, rfl⟩ := row64 h1
  obtain ⟨l, hx0, rfl⟩ := row64 h0
  clear h1 h0
  have HM := Lib.hid hx1
  have HL := Lib.hid hx0
  clear hx1 hx0
  have hb0 : l.length ≤ 17592186043904 := by omega
  have hb1 : m.length ≤ 17592186043904 := by omega
  clear s0 s1
  by_cases hls : l.length + m.length ≤ 300
  · have g0 : ¬ ((300 : Int) < (l.length : Int) + m.length) := by omega
    have hln := numsF_len2 HL.out.rng (by omega)
    have hmn := numsF_len2 HM.out.rng (by omega)
    have hr := numsG_whole l (numsF m) HL.out.rng (by omega)
    have hr2 := numsG_whole m [] HM.out.rng (by omega)
    rw [List.append_nil] at hr2
    generalize hbs : numsF l = bs at *
    generalize hcs : numsF m = cs at *
    have HBS := Lib.hid hbs
    have HCS := Lib.hid hcs
    have HR := Lib.hid hr
    have HR2 := Lib.hid hr2
    clear hbs hcs hr hr2
    go_enter Try.func10, Try.ntmps10
    go_wp2_with fail
    refine (Nums_any a0 l cap0 w HL.out (by omega)).mono ?_
    rintro e w1 ⟨v1, rfl, o1, b1⟩
    rw [HBS.out] at o1
    have O1 := Lib.hid o1
    clear o1
    go_wp2_with fail
    refine (Nums_any a1 m cap1 w1 (HM.out.later b1) (by omega)).mono ?_
    intro e w2 h
    obtain ⟨p2, c2, rfl, x2, hc2, hq2, b2⟩ := h.slice HCS.out rfl
    clear h
    have X2 := Lib.hid x2
    clear x2
    have hsz := (below_trans b1 b2).size
    go_wp2_with (at_builtin; refine wpList_append_byts rfl (.tmp 20) (.tmp 22) rfl w.heap.size _ bs rfl (O1.out.later b2) p2 cs c2 rfl X2.out hq2 (by omega) hsz ?_; intro v3 w3 T3 B3 G3; obtain ⟨q3, c3, rfl, x3, hc3, hq3⟩ := T3.fits)
    rw [List.length_append] at hc3
    have hG := GetNums_any q3 (bs ++ cs) c3 w3 ⟨x3, by simp; omega, by simp; omega, hq3⟩
    have X3 := Lib.hid x3
    have bb3 : Below w.heap.size w w3 := (below_trans b1 b2).trans B3
    clear T3 G3 x3 B3
    obtain ⟨b, off, rfl, -, -⟩ := X3.out.cells 0 (by simp; omega)
    unfold NumsPost at hG
    rw [HR.out, List.length_append] at hG
    refine hG.mono ?_
    clear hG
    rintro e w4 ⟨b4, ⟨hr, -⟩ | ⟨l4, at4, g4, hr, -, rfl, x4⟩⟩
    · cases hr
    injection hr with hr
    injection hr with hr1 hr2
    subst hr1 hr2
    have X4 := Lib.hid (X3.out.later b4)
    have I4 := Lib.hid x4
    have bb4 := bb3.trans (b4.mono bb3.size)
    clear x4
    go_wp2_with fail
    have X5 := X4.out.part bs.length cs.length
    rw [List.drop_left, List.take_length] at X5
    have hG := GetNums_any (some ⟨b, off + bs.length, none⟩) cs (c3 - bs.length) w4 ⟨X5, by omega, by omega, by simp⟩
    clear X5
    unfold NumsPost at hG
    rw [HR2.out] at hG
    refine hG.mono ?_
    clear hG
    rintro e w5 ⟨b5, ⟨hr, -⟩ | ⟨l5, at5, g5, hr, -, rfl, x5⟩⟩
    · cases hr
    injection hr with hr
    injection hr with hr1 hr2
    subst hr1 hr2
    have I5 := Lib.hid x5
    have J5 := Lib.hid (I4.out.later b5)
    have bb5 := below_trans bb4 b5
    clear x5
    go_wp2_with fail
    refine (alive_any w5).mono ?_
    rintro e w6 ⟨rfl, b6⟩
    go_wp2_with fail
    refine (rInts_any (some ⟨g4, 0, none⟩) a0 l l _ cap0 w6 (J5.out.later b6) (HL.out.later (below_trans bb5 b6)) (by omega) (by omega)).mono ?_
    rintro e w7 ⟨rfl, b7⟩
    rw [show decide (l = l) = true from by simp]
    have b57 := below_trans b6 b7
    go_wp2_with fail
    refine (rInts_any (some ⟨g5, 0, none⟩) a1 m m _ cap1 w7 (I5.out.later b57) (HM.out.later (below_trans bb5 b57)) (by omega) (by omega)).mono ?_
    rintro e w8 ⟨rfl, b8⟩
    rw [show decide (m = m) = true from by simp]
    go_wp2_with fail
    go_ret
    exact ⟨by first | rfl | (simp; done), below_trans bb5 (below_trans b57 b8)⟩
  · have g0 : (300 : Int) < (l.length : Int) + m.length := by omega
    go_enter Try.func10, Try.ntmps10
    go_wp2_with fail
    refine (alive_any w).mono ?_
    rintro e w1 ⟨rfl, b1⟩
    go_wp2_with fail
    go_ret
    exact ⟨rfl, b1⟩

end Go.Proofs.Ytljblkhjpnipgaa
