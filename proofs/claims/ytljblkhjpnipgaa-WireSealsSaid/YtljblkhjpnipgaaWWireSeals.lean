/-
  WIRE: the walk of the law WireSeals.
-/
import Derived.Test.YtljblkhjpnipgaaWireI
import Derived.Test.YtljblkhjpnipgaaWireO
namespace Go.Proofs.Ytljblkhjpnipgaa
open Go.ChangeShapes Go.WideShapes Go.ChangeAt Go.RowKit Go.Lib

theorem openF_whole (xs r : List Int) (hl : xs.length ≤ 1000000) : openF (sealF xs ++ r) = some (xs, (sealF xs).length) := by
  have hs := sumF_in xs
  have hg := getF_put (n := sumF xs) (by unfold In64; omega) r
  have e : sealF xs ++ r = putF (zig xs.length) ++ xs ++ (putF (zig (sumF xs)) ++ r) := by unfold sealF; rw [List.append_assoc]
  rw [e, openF_some (runF_whole xs _ hl), runF_part]
  rw [show (putF (zig xs.length)).length + xs.length = (putF (zig xs.length) ++ xs).length from by rw [List.length_append], List.drop_left, hg]
  simp only [ne_eq, not_true_eq_false, or_self, if_false]
  unfold sealF
  simp only [List.length_append]
theorem openF_short (xs : List Int) (hl : xs.length ≤ 1000000) {k : Nat} (hk : k < (sealF xs).length) : openF ((sealF xs).take k) = none := by
  have hs := sumF_in xs
  unfold sealF at hk ⊢
  simp only [List.length_append] at hk
  by_cases h : k < (putF (zig xs.length)).length + xs.length
  · exact openF_none (runF_short xs _ hl h)
  · have e : (putF (zig xs.length) ++ xs ++ putF (zig (sumF xs))).take k = putF (zig xs.length) ++ xs ++ (putF (zig (sumF xs))).take (k - (putF (zig xs.length) ++ xs).length) := take_hd (by rw [List.length_append]; omega)
    have hg := getF_short (n := sumF xs) (by unfold In64; omega) [] (k := k - (putF (zig xs.length) ++ xs).length) (by rw [List.length_append]; omega)
    rw [List.append_nil] at hg
    rw [e, openF_some (runF_whole xs _ hl)]
    rw [show (putF (zig xs.length)).length + xs.length = (putF (zig xs.length) ++ xs).length from by rw [List.length_append], List.drop_left, hg]
    simp
theorem sealF_len {xs : List Int} (hl : xs.length ≤ 1000000) : 1 ≤ (sealF xs).length ∧ (sealF xs).length ≤ xs.length + 20 := by
  have hs := sumF_in xs
  have h1 := putF_len10 (zig_lt (n := xs.length) (by omega) (by omega))
  have h2 := putF_len10 (zig_lt (n := sumF xs) (by omega) (by omega))
  unfold sealF
  simp only [List.length_append]; omega

set_option maxHeartbeats 2000000 in
theorem walkWireSeals (a0 : Option Addr) (len0 cap0 : Nat) (z0 : List Int) (a1 : Option Addr) (len1 cap1 : Nat) (z1 : List Int) (w : World) (h0 : IsRow .u8 w a0 len0 cap0 z0) (h1 : IsRow .u8 w a1 len1 cap1 z1)
    (s0 : len0 * 1 ≤ 140737488351232) (s1 : len1 * 1 ≤ 140737488351232) :
    Calls Try.prog 12 #[.slice a0 len0 cap0, .slice a1 len1 cap1] w fun e w' => e = .returned (.bool true) ∧ Below w.heap.size w w' := by
  obtain ⟨xs, hx0, rfl, hcap0, hp0⟩ := row8 h0
  obtain ⟨ys, hx1, rfl, hcap1, hp1⟩ := row8 h1
  clear h1 h0
  have HX := Lib.hid hx0
  have HY := Lib.hid hx1
  clear hx1 hx0
  by_cases hls : xs.length + ys.length ≤ 600
  · have g0 : ¬ ((600 : Int) < (xs.length : Int) + ys.length) := by omega
    have hln := sealF_len (xs := xs) (by omega)
    have hr := openF_whole xs ys (by omega)
    have hsh : ∀ k, k < (sealF xs).length → openF ((sealF xs).take k) = none := fun k hk => openF_short xs (by omega) hk
    generalize hbs : sealF xs = bs at *
    have HBS := Lib.hid hbs
    have HR := Lib.hid hr
    have HSH := Lib.hid hsh
    have hbpos : 1 ≤ bs.length := by omega
    have hbmax : bs.length ≤ 1000 := by omega
    clear hbs hr hsh hln
    go_enter Try.func12, Try.ntmps12
    go_wp2_with fail
    refine (Seal_any a0 xs cap0 w HX.out (by omega) hp0).mono ?_
    intro e w1 h
    obtain ⟨p1, c1, rfl, x1, hc1, -, b1⟩ := h.slice HBS.out rfl
    clear h
    obtain ⟨b, off, rfl, -, -⟩ := x1.cells 0 (by omega)
    have X1 := Lib.hid x1
    clear x1
    go_wp2_with (at_builtin; refine wpList_append_full rfl (.tmp 28) (.tmp 29) rfl b off bs rfl X1.out a1 ys cap1 rfl (HY.out.later b1) hp1 (by omega) ?_; intro q c w2 x2 hc2 hq2 b2)
    rw [List.length_append] at hc2
    have hG := Open_any q (bs ++ ys) c w2 x2 (by simp; omega) (by simp; omega) hq2
    unfold OpenPost at hG
    rw [HR.out, List.length_append] at hG
    refine hG.mono ?_
    clear hG
    rintro e w3 ⟨b3, ⟨hr, -⟩ | ⟨in3, at3, q3, cq3, hr, -, -, rfl, x3⟩⟩
    · cases hr
    injection hr with hr
    injection hr with hr1 hr2
    subst hr1 hr2
    have bb := below_trans b2 b3
    have X3 := Lib.hid (X1.out.later bb)
    have I3 := Lib.hid x3
    replace bb := below_trans b1 bb
    clear b1 b2 b3 x2 x3
    go_wp2_with fail
    go_loopw [37] (fun i wr => ∃ k : Nat, k ≤ bs.length ∧ i = .int .i64 k ∧ Below w3.heap.size w3 wr) (fun i _ => bs.length - (intOf i).toNat)
    case atStart => exact ⟨0, Nat.zero_le _, rfl, Below.refl _ _⟩
    case round =>
      obtain ⟨k, hk, rfl, hbr⟩ := hrel
      by_cases hlt : k < bs.length
      · have hG := Open_any (some ⟨b, off, none⟩) (bs.take k) c1 wr ((X3.out.later hbr).take k) (by simp; omega) (by simp; omega) (by simp)
        unfold OpenPost at hG
        rw [HSH.out k hlt, List.length_take, Nat.min_eq_left (by omega)] at hG
        have HG := Lib.hid hG
        clear hG
        have hkc : k ≤ c1 := by omega
        go_wp2_with fail
        refine HG.out.mono ?_
        rintro e w4 ⟨b4, ⟨-, rfl⟩ | ⟨_, _, _, _, hr, -⟩⟩
        rotate_left
        · cases hr
        have b14 := below_trans hbr b4
        go_wp2_with fail
        go_roundw
        case rel => exact ⟨k + 1, by omega, by go_num, b14⟩
        case measure => simp [intOf]; omega
      · obtain rfl : k = bs.length := by omega
        go_wp2_with fail
        refine (alive_any wr).mono ?_
        rintro e w4 ⟨rfl, b4⟩
        have b34 := below_trans hbr b4
        go_wp2_with fail
        refine (rSame_any q3 a0 xs xs cq3 cap0 w4 (I3.out.later b34) (HX.out.later (below_trans bb b34)) (by omega) (by omega)).mono ?_
        rintro e w5 ⟨rfl, b5⟩
        rw [show decide (xs = xs) = true from by simp]
        go_wp2_with fail
        go_ret
        exact ⟨by first | rfl | (simp; done), below_trans bb (below_trans b34 b5)⟩
  · have g0 : (600 : Int) < (xs.length : Int) + ys.length := by omega
    go_enter Try.func12, Try.ntmps12
    go_wp2_with fail
    refine (alive_any w).mono ?_
    rintro e w1 ⟨rfl, b1⟩
    go_wp2_with fail
    go_ret
    exact ⟨rfl, b1⟩

end Go.Proofs.Ytljblkhjpnipgaa
