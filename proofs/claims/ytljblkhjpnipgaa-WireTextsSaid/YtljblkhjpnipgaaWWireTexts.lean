/-
  WIRE: the walk of the law WireTexts.
-/
import Derived.Test.YtljblkhjpnipgaaWireI
import Derived.Test.YtljblkhjpnipgaaWireR
namespace Go.Proofs.Ytljblkhjpnipgaa
open Go.ChangeShapes Go.WideShapes Go.ChangeAt Go.RowKit Go.Lib

theorem strOfNums_strB (s : ByteArray) : strOfNums (strB s) = s := by
  unfold strOfNums strB
  rw [List.map_map]
  have : (s.data.toList.map ((fun n : Int => UInt8.ofNat n.toNat) ∘ fun b : UInt8 => (b.toNat : Int))) = s.data.toList := by
    rw [show ((fun n : Int => UInt8.ofNat n.toNat) ∘ fun b : UInt8 => (b.toNat : Int)) = id from by funext b; simp]
    simp
  rw [this]

set_option maxHeartbeats 2000000 in
theorem walkWireTexts (s : ByteArray) (a1 : Option Addr) (len1 cap1 : Nat) (z1 : List Int) (w : World) (hs : s.size ≤ maxLen) (h1 : IsRow .u8 w a1 len1 cap1 z1) :
    Calls Try.prog 7 #[.string s, .slice a1 len1 cap1] w fun e w' => e = .returned (.bool true) ∧ Below w.heap.size w w' := by
  obtain ⟨xs, hx, rfl, hcap, hp⟩ := row8 h1
  clear h1 hs
  have HX := Lib.hid hx
  clear hx
  by_cases hls : s.size ≤ 1000
  · have g0 : ¬ ((1000 : Int) < s.size) := by omega
    by_cases hlx : xs.length ≤ 1000
    · have g1 : ¬ ((1000 : Int) < xs.length) := by omega
      have hsl := strB_length s
      have hl := putF_len10 (zig_lt (n := (strB s).length) (by omega) (by omega))
      have hr := runF_whole (strB s) xs (by omega)
      have hpart := runF_part (strB s) xs
      have hsh := runF_short (strB s) [] (by omega) (k := (putF (zig (strB s).length)).length + (strB s).length - 1) (by omega)
      rw [List.append_nil] at hsh
      have hst := strOfNums_strB s
      have hbl : (putF (zig (strB s).length) ++ strB s).length = (putF (zig (strB s).length)).length + s.size := by rw [List.length_append, hsl]
      rw [hsl] at hr hpart hsh hl hbl
      generalize hbs : putF (zig s.size) ++ strB s = bs at *
      have hdl : (putF (zig s.size)).length = (putF (zig s.size)).length := rfl
      generalize (putF (zig s.size)).length = hd at *
      rw [← hbl] at hsh
      have HBS := Lib.hid hbs
      have HR := Lib.hid hr
      have HP := Lib.hid hpart
      have HSH := Lib.hid hsh
      have HST := Lib.hid hst
      have hbpos : 1 ≤ bs.length := by omega
      have hbmax : bs.length ≤ 1010 := by omega
      have HBL := Lib.hid hbl
      clear hbs hr hpart hsh hst hdl hsl hbl
      go_enter Try.func7, Try.ntmps7
      go_wp2_with fail
      refine (Text_any s w (by omega)).mono ?_
      intro e w1 h
      obtain ⟨p1, c1, rfl, x1, hc1, -, b1⟩ := h.slice HBS.out rfl
      clear h
      obtain ⟨b, off, rfl, -, -⟩ := x1.cells 0 (by omega)
      have X1 := Lib.hid x1
      clear x1
      go_wp2_with (at_builtin; refine wpList_append_full rfl (.tmp 29) (.tmp 30) rfl b off bs rfl X1.out a1 xs cap1 rfl (HX.out.later b1) hp (by omega) ?_; intro q c w2 x2 hc2 hq2 b2)
      rw [List.length_append] at hc2
      have hG := GetText_any q (bs ++ xs) c w2 x2 (by simp; omega) (by simp; omega) hq2
      unfold TextPost at hG
      rw [HR.out, List.length_append] at hG
      refine hG.mono ?_
      clear hG
      rintro e w3 ⟨b3, ⟨hr, -⟩ | ⟨at3, n3, hr, -, rfl⟩⟩
      · cases hr
      injection hr with hr
      injection hr with hr1 hr2
      subst hr1 hr2
      rw [HP.out, HST.out, ← HBL.out]
      have bb := below_trans b2 b3
      have X3 := Lib.hid (X1.out.later bb)
      replace bb := below_trans b1 bb
      clear b1 b2 b3 x2
      have hmx : ¬ ((bs.length : Int) - 1 < 0) := by omega
      go_wp2_with fail
      all_goals (
        have hG2 := GetText_any (some ⟨b, off, none⟩) (bs.take (bs.length - 1)) c1 w3 (X3.out.take _) (by simp; omega) (by simp; omega) (by simp)
        unfold TextPost at hG2
        rw [HSH.out, List.length_take, Nat.min_eq_left (by omega)] at hG2
        try (rw [show bs.length - 1 = 0 from by omega] at hG2)
        refine hG2.mono ?_
        clear hG2
        rintro e w4 ⟨b4, ⟨-, rfl⟩ | ⟨at4, n4, hr, -, -⟩⟩
        rotate_left
        · cases hr
        have X4 := Lib.hid (X3.out.later b4)
        have bb4 := below_trans bb b4
        go_wp2_with fail
        refine (alive_any w4).mono ?_
        rintro e w5 ⟨rfl, b5⟩
        go_wp2_with fail
        refine (rText_any s w5 (by omega)).mono ?_
        intro e w6 h
        obtain ⟨p6, c6, rfl, x6, -, -, b6⟩ := h.slice HBS.out rfl
        clear h
        go_wp2_with fail
        refine (rSame_any (some ⟨b, off, none⟩) p6 bs bs c1 c6 w6 (X4.out.later (below_trans b5 b6)) x6 (by omega) (by omega)).mono ?_
        rintro e w7 ⟨rfl, b7⟩
        rw [show decide (bs = bs) = true from by simp]
        go_wp2_with fail
        go_ret
        exact ⟨by first | rfl | (simp; done), below_trans bb4 (below_trans b5 (below_trans b6 b7))⟩)
    · have g1 : (1000 : Int) < xs.length := by omega
      go_enter Try.func7, Try.ntmps7
      go_wp2_with fail
      refine (alive_any w).mono ?_
      rintro e w1 ⟨rfl, b1⟩
      go_wp2_with fail
      go_ret
      exact ⟨rfl, b1⟩
  · have g0 : (1000 : Int) < s.size := by omega
    go_enter Try.func7, Try.ntmps7
    go_wp2_with fail
    refine (alive_any w).mono ?_
    rintro e w1 ⟨rfl, b1⟩
    go_wp2_with fail
    go_ret
    exact ⟨rfl, b1⟩

end Go.Proofs.Ytljblkhjpnipgaa
