/-
  WIRE: the walk of the law WireTurned.
-/
import Derived.Test.YtljblkhjpnipgaaWireI
import Derived.Test.YtljblkhjpnipgaaWireV
namespace Go.Proofs.Ytljblkhjpnipgaa
open Go.ChangeShapes Go.WideShapes Go.ChangeAt Go.RowKit Go.Lib

theorem OpenPost.err {w : World} {bs : List Int} {e : Ending} {w' : World} (h : OpenPost w bs e w') :
    ∃ (er : Int) (q : Option Addr) (n cq at_ : Nat), (openF bs = none → er = 3) ∧ (openF bs ≠ none → er = 0) ∧ e = .returned (.tuple #[.slice q n cq, .int .i64 ((at_ : Nat) : Int), .int .i64 er]) ∧ Below w.heap.size w w' := by
  obtain ⟨hb, ⟨h1, h2⟩ | ⟨inner, at_, q, cq, h1, h2, h3, h4, h5⟩⟩ := h
  · exact ⟨3, none, 0, 0, 0, fun _ => rfl, fun h => absurd h1 h, h2, hb⟩
  · exact ⟨0, q, _, cq, at_, (fun h => by rw [h1] at h; cases h), fun _ => rfl, h4, hb⟩

theorem OwnB.put {w : World} {base g cap : Nat} {bs : List Int} (h : OwnB w base (.slice (some ⟨g, 0, none⟩) bs.length cap) bs) (i : Nat) (y : Int) (hy : In8 y) : OwnB (w.setCell ⟨g, i, none⟩ (.int .u8 y)) base (.slice (some ⟨g, 0, none⟩) bs.length cap) (bs.set i y) := by
  have := (h.1.stored i (.int .u8 y)).1
  refine ⟨?_, fun z hz => ?_⟩
  · rw [List.length_set, List.map_set]; exact this
  · rcases List.mem_or_eq_of_mem_set hz with h1 | h1
    · exact h.2 z h1
    · rw [h1]; exact hy

theorem OwnB.full {w : World} {base : Nat} {v : Value} {bs : List Int} (h : OwnB w base v bs) (i : Nat) (hi : i < bs.length) :
    ∃ g cap u, v = .slice (some ⟨g, 0, none⟩) bs.length cap ∧ base ≤ g ∧ w.cell? ⟨g, i, none⟩ = some u ∧ w.frozen? ⟨g, i, none⟩ = false := by
  obtain ⟨p, cap, hv, hx, h1 | ⟨g, h1, h2, h3⟩⟩ := h.opened
  · rw [h1.2] at hi; simp at hi
  · subst h1
    subst hv
    obtain ⟨b', o', e1, _, k⟩ := hx.cells i hi
    injection e1 with e1
    injection e1 with e1 e2
    subst e1 e2
    rw [Nat.zero_add] at k
    exact ⟨g, cap, _, rfl, h2, k, h.1.frozenAt i⟩

theorem in8_one {x : Int} (h : In8 x) : ∀ z ∈ [x], In8 z := fun z hz => by simp at hz; rw [hz]; exact h
theorem in8_two {x y : Int} (h : In8 x) (h2 : In8 y) : ∀ z ∈ [x, y], In8 z := fun z hz => by
  simp at hz
  rcases hz with hz | hz
  · rw [hz]; exact h
  · rw [hz]; exact h2

theorem sealF_len3 {xs : List Int} (hl : xs.length ≤ 1000000) : (sealF xs).length ≤ xs.length + 20 ∧ (putF (zig (xs.length : Nat))).length + xs.length < (sealF xs).length := by
  have hs := sumF_in xs
  have h1 := putF_len10 (zig_lt (n := xs.length) (by omega) (by omega))
  have h2 := putF_len10 (zig_lt (n := sumF xs) (by omega) (by omega))
  unfold sealF
  simp only [List.length_append]; omega

set_option maxHeartbeats 4000000 in
theorem walkWireTurned (a0 : Option Addr) (len0 cap0 : Nat) (z0 : List Int) (x y : Int) (a3 : Option Addr) (len3 cap3 : Nat) (z3 : List Int) (w : World) (h0 : IsRow .u8 w a0 len0 cap0 z0) (hx : 0 ≤ x ∧ x ≤ 255) (hy : 0 ≤ y ∧ y ≤ 255) (h3 : IsRow .u8 w a3 len3 cap3 z3)
    (s0 : len0 * 1 ≤ 140737488351232) (s3 : len3 * 1 ≤ 140737488351232) :
    Calls Try.prog 13 #[.slice a0 len0 cap0, .int .u8 x, .int .u8 y, .slice a3 len3 cap3] w fun e w' => e = .returned (.bool true) ∧ Below w.heap.size w w' := by
  obtain ⟨xs, hx0, rfl, hcap0, hp0⟩ := row8 h0
  obtain ⟨ys, hx3, rfl, hcap3, hp3⟩ := row8 h3
  clear h0 h3
  obtain ⟨W, hW⟩ : ∃ W, W = (w.alloc (Obj.cells #[Value.slice a0 xs.length cap0] 24)).alloc (Obj.cells #[Value.slice a3 ys.length cap3] 24) := ⟨_, rfl⟩
  have bW : Below w.heap.size w W := by rw [hW]; exact bel_alloc (bel_alloc (Below.refl _ _) _) _
  have B0 : Blk W w.heap.size 24 #[Value.slice a0 xs.length cap0] := by rw [hW]; exact (Blk.made _ _ _).alloc _
  have B1 : Blk W (w.heap.size + 1) 24 #[Value.slice a3 ys.length cap3] := by
    rw [hW]; have := Blk.made (w.alloc (Obj.cells #[Value.slice a0 xs.length cap0] 24)) 24 #[Value.slice a3 ys.length cap3]; simpa [go_sem] using this
  have k0 : W.cell? ⟨w.heap.size, 0, none⟩ = some (.slice a0 xs.length cap0) := B0.cell 0
  have k1 : W.cell? ⟨w.heap.size + 1, 0, none⟩ = some (.slice a3 ys.length cap3) := B1.cell 0
  have HX := Lib.hid (hx0.later bW)
  have HY := Lib.hid (hx3.later bW)
  have HW := Lib.hid hW
  have HB0 := Lib.hid B0
  have HB1 := Lib.hid B1
  clear hx0 hx3 hW B0 B1
  by_cases hls : xs.length + ys.length ≤ 600
  · have g0 : ¬ ((600 : Int) < (xs.length : Int) + ys.length) := by omega
    have hof : ∀ (l : List Int) (wx : World) (pl : Option Addr) (n : Nat), l.length = n → Below W.heap.size W wx → Byts wx pl l → (pl ≠ none) → l.length ≤ 2 →
        Calls Try.prog 35 #[.slice pl n n, .pointer (some ⟨w.heap.size, 0, none⟩), .pointer (some ⟨w.heap.size + 1, 0, none⟩)] wx (PutPost wx wx.heap.size (xs ++ l ++ ys)) := fun l wx pl n hn hb hl hpl hll => by
      subst hn
      exact of_any w.heap.size (w.heap.size + 1) a0 a3 pl xs ys l cap0 cap3 l.length wx (HX.out.later hb) (HY.out.later hb) hl hp0 hp3 (fun h => absurd h hpl) (HB0.out.later hb) (HB1.out.later hb) (by omega)
    have HOF := Lib.hid hof
    clear hof
    have hi1 : In8 x := hx
    have hi2 : In8 y := hy
    have t1 := sum_turned xs ys x y hi1 hi2
    have t2 := sum_swapped xs ys x y hi1 hi2
    have hol := seal_turned xs ys x y
    have hop := open_turned xs ys x y hi1 hi2 (by simp; omega)
    have hsl := sealF_len3 (xs := xs ++ [x] ++ ys) (by simp; omega)
    have l1 : (xs ++ [x] ++ ys).length = xs.length + 1 + ys.length := by simp; omega
    have l2 : (xs ++ [y] ++ ys).length = xs.length + 1 + ys.length := by simp; omega
    have l3 : (xs ++ [x, y] ++ ys).length = xs.length + 2 + ys.length := by simp; omega
    have l4 : (xs ++ [y, x] ++ ys).length = xs.length + 2 + ys.length := by simp; omega
    have hio : ∀ z ∈ xs ++ [x] ++ ys, In8 z := by
      intro z hz
      simp only [List.mem_append, List.mem_singleton] at hz
      rcases hz with (hz | hz) | hz
      · exact HX.out.rng z hz
      · rw [hz]; exact hi1
      · exact HY.out.rng z hz
    have hhd := putF_len10 (zig_lt (n := ((xs ++ [x] ++ ys).length : Nat)) (by omega) (by omega))
    obtain ⟨β, hβ⟩ : ∃ β, (x == y) = β := ⟨_, rfl⟩
    have hb1 : (sumF (xs ++ [x] ++ ys) == sumF (xs ++ [y] ++ ys)) = β := by rw [← hβ, Bool.eq_iff_iff]; simp only [beq_iff_eq]; exact t1
    have hb2 : (sumF (xs ++ [x, y] ++ ys) == sumF (xs ++ [y, x] ++ ys)) = β := by rw [← hβ, Bool.eq_iff_iff]; simp only [beq_iff_eq]; exact t2
    have hop2 : (openF (putF (zig ((xs ++ [y] ++ ys).length : Nat)) ++ (xs ++ [y] ++ ys) ++ putF (zig (sumF (xs ++ [x] ++ ys)))) = none) ↔ β = false := by rw [hop, ← hβ]; simp
    rw [← hol] at hop2
    clear t1 t2 hol hop
    generalize hq1 : xs ++ [x] ++ ys = q1 at *
    generalize hq2 : xs ++ [y] ++ ys = q2 at *
    generalize hq3 : xs ++ [x, y] ++ ys = q3 at *
    generalize hq4 : xs ++ [y, x] ++ ys = q4 at *
    have HQ1 := Lib.hid hq1
    have HQ2 := Lib.hid hq2
    have HQ3 := Lib.hid hq3
    have HQ4 := Lib.hid hq4
    have HOP := Lib.hid hop2
    have L1 := Lib.hid l1
    have L2 := Lib.hid l2
    have L3 := Lib.hid l3
    have L4 := Lib.hid l4
    obtain ⟨hd, hhdE⟩ : ∃ hd, (putF (zig (q1.length : Nat))).length = hd := ⟨_, rfl⟩
    rw [hhdE] at hsl hhd HOP
    have HHD := Lib.hid hhdE
    have hn1 : q1.length ≤ 601 := by omega
    have hn2 : q2.length ≤ 601 := by omega
    have hn3 : q3.length ≤ 602 := by omega
    have hn4 : q4.length ≤ 602 := by omega
    have hxq : xs.length < q1.length := by omega
    generalize hse : sealF q1 = se at *
    have HSE := Lib.hid hse
    clear hq1 hq2 hq3 hq4 hop2 l1 l2 l3 l4 hhdE hse hio
    cases β
    rotate_left
    · obtain rfl : x = y := by simpa using hβ
      clear hβ
      go_enter Try.func13, Try.ntmps13
      go_wp2_with fail
      rw [← HW.out]
      have hWs : W.heap.size = w.heap.size + 1 + 1 := by rw [HW.out]; simp [go_sem]
      have hbx : Byts (W.alloc (Obj.cells #[Value.int .u8 x] 5)) (some ⟨w.heap.size + 1 + 1, 0, none⟩) [x] := by
        have := byts_new W [x] (by simpa using hi1)
        rw [hWs] at this; exact this
      refine (HOF.out [x] _ _ 1 rfl (bel_alloc (Below.refl _ _) _) hbx (by simp) (by simp)).mono ?_
      intro e w1 h
      obtain ⟨p1, c1, rfl, x1, -, -, b1⟩ := h.slice HQ1.out rfl
      clear h hbx
      have b01 := below_of W b1 (bel_alloc (Below.refl _ _) _)
      have X1 := Lib.hid x1
      clear x1 b1
      go_wp2_with fail
      refine (HOF.out [x] _ _ 1 rfl (bel_alloc b01 _) (byts_new w1 [x] (by simpa using hi1)) (by simp) (by simp)).mono ?_
      intro e w2 h
      obtain ⟨p2, c2, rfl, x2, -, -, b2⟩ := h.slice HQ2.out rfl
      clear h
      have b12 := below_of w1 b2 (bel_alloc (Below.refl _ _) _)
      have b02 := below_trans b01 b12
      have X2 := Lib.hid x2
      replace X1 := Lib.hid (X1.out.later b12)
      clear x2 b2
      go_wp2_with fail
      refine (Sum_any p1 q1 c1 w2 X1.out (by omega)).mono ?_
      rintro e w3 ⟨rfl, b3⟩
      have b03 := below_trans b02 b3
      replace X2 := Lib.hid (X2.out.later b3)
      replace X1 := Lib.hid (X1.out.later b3)
      go_wp2_with fail
      refine (Sum_any p2 q2 c2 w3 X2.out (by omega)).mono ?_
      rintro e w4 ⟨rfl, b4⟩
      have b04 := below_trans b03 b4
      replace X1 := Lib.hid (X1.out.later b4)
      clear X2 b3 b4 b12 b03 b02 b01
      go_wp2_with fail
      refine (HOF.out [x, x] _ _ 2 rfl (bel_alloc b04 _) (byts_new w4 [x, x] (in8_two hi1 hi1)) (by simp) (by simp)).mono ?_
      intro e w5 h
      obtain ⟨p5, c5, rfl, x5, -, -, b5⟩ := h.slice HQ3.out rfl
      clear h
      have b45 := below_of w4 b5 (bel_alloc (Below.refl _ _) _)
      have b05 := below_trans b04 b45
      replace X1 := Lib.hid (X1.out.later b45)
      have X5 := Lib.hid x5
      clear x5 b5
      go_wp2_with fail
      refine (Sum_any p5 q3 c5 w5 X5.out (by omega)).mono ?_
      rintro e w6 ⟨rfl, b6⟩
      have b06 := below_trans b05 b6
      replace X1 := Lib.hid (X1.out.later b6)
      go_wp2_with fail
      refine (HOF.out [x, x] _ _ 2 rfl (bel_alloc b06 _) (byts_new w6 [x, x] (in8_two hi1 hi1)) (by simp) (by simp)).mono ?_
      intro e w7 h
      obtain ⟨p7, c7, rfl, x7, -, -, b7⟩ := h.slice HQ4.out rfl
      clear h
      have b67 := below_of w6 b7 (bel_alloc (Below.refl _ _) _)
      have b07 := below_trans b06 b67
      replace X1 := Lib.hid (X1.out.later b67)
      have X7 := Lib.hid x7
      clear x7 b7
      go_wp2_with fail
      refine (Sum_any p7 q4 c7 w7 X7.out (by omega)).mono ?_
      rintro e w8 ⟨rfl, b8⟩
      have b08 := below_trans b07 b8
      replace X1 := Lib.hid (X1.out.later b8)
      go_wp2_with fail
      have hc1n : p1 = none → c1 = 0 := fun h => by
        have := X1.out.cells 0 (by omega)
        obtain ⟨_, _, e, _⟩ := this
        rw [h] at e; cases e
      refine (Seal_any p1 q1 c1 w8 X1.out (by omega) hc1n).mono ?_
      intro e w9 h
      obtain ⟨p9, c9, rfl, x9, -, hp9, b9⟩ := h.slice HSE.out rfl
      clear h
      have b09 := below_trans b08 b9
      have X9 := Lib.hid x9
      have kk0 : w9.cell? ⟨w.heap.size, 0, none⟩ = some (.slice a0 xs.length cap0) := (HB0.out.later b09).cell 0
      have hlt0 : w.heap.size < w9.heap.size := (HB0.out.later b09).lt
      clear x9 b9 b8 b67 b6 b45
      have hS : ∀ w', Below w9.heap.size w9 w' → w'.cell? ⟨w.heap.size, 0, none⟩ = some (.slice a0 xs.length cap0) ∧ Below w9.heap.size w9 w' := fun w' h => ⟨by rw [h.cell (p := ⟨w.heap.size, 0, none⟩) hlt0]; exact kk0, h⟩
      have HS := Lib.hid hS
      clear hS
      have hpz : In64 (q1.length : Int) := by unfold In64; omega
      have HPZ := Lib.hid hpz
      clear hpz
      go_wp2_with fail
      go_region_held3 (fun w' => w'.cell? ⟨w.heap.size, 0, none⟩ = some (.slice a0 xs.length cap0) ∧ Below w9.heap.size w9 w')
        (first
          | exact HS.out _ (by repeat (first | exact Below.refl _ _ | assumption | refine bel_drew ?_ | refine bel_alloc ?_ _)))
        (first
          | (go_at_call 16
             refine (Put_any (q1.length : Int) _ HPZ.out).mono ?_
             intro e w10 h
             obtain ⟨p10, c10, rfl, x10, -, -, b10⟩ := h.slice rfl HHD.out
             clear h x10
             have bb10 := below_of w9 b10 (by repeat (first | exact Below.refl _ _ | assumption | refine bel_drew ?_ | refine bel_alloc ?_ _))
             clear b10))
      all_goals (
        have hidx : hd + xs.length < se.length := by omega
        have b910 := bb10
        have b010 := below_trans b09 b910
        have X10 := Lib.hid (X9.out.later b910)
        have hsm := (bel_alloc (Below.refl w10.heap.size w10) (Obj.cells #[] 5)).size
        go_wp2_with (at_builtin; refine wpList_append_byts rfl (.tmp 74) (.tmp 75) rfl w10.heap.size _ [] rfl (OwnB.made0 w10) p9 se c9 rfl (X10.out.later (bel_alloc (Below.refl _ _) _)) hp9 (by simp; omega) hsm ?_; intro v11 w11 T11 B11 G11; rw [List.nil_append] at T11; obtain ⟨g, c11, u11, rfl, hgb, k11, f11⟩ := T11.full (hd + xs.length) hidx; have HT11 := Lib.hid T11; clear T11 G11)
        have b011 := bel_base (Nat.le_refl _) (bel_alloc (Below.refl w10.heap.size w10) (Obj.cells #[] 5)) B11
        have T12 := HT11.out.put (hd + xs.length) x hi1
        rw [show (Value.slice (some ⟨g, 0, none⟩) se.length c11) = .slice (some ⟨g, 0, none⟩) (se.set (hd + xs.length) x).length c11 from by rw [List.length_set]] at T12
        obtain ⟨p12, c12, hv12, x12, hc12, hp12⟩ := T12.fits
        injection hv12 with e1 e2 e3
        subst e1 e3
        have hO := Open_any (some ⟨g, 0, none⟩) (se.set (hd + xs.length) x) c11 _ x12 (by rw [List.length_set]; omega) hc12 hp12
        rw [List.length_set] at hO
        refine hO.mono ?_
        clear hO
        intro e w13 h
        obtain ⟨er, q, n, cq, at_, hA, hB, rfl, b13⟩ := h.err
        clear h
        have b013 := below_trans b010 ((b011.setCell (p := ⟨g, hd + xs.length, none⟩) hgb (.int .u8 x)).trans (b13.mono (b011.setCell (p := ⟨g, hd + xs.length, none⟩) hgb (.int .u8 x)).size))
        clear x12 T12 b13 f11 k11 B11
        obtain rfl := hB (fun h => Bool.noConfusion (HOP.out.1 h))
        go_wp2_with fail
        refine (alive_any w13).mono ?_
        rintro e w14 ⟨rfl, b14⟩
        go_wp2_with fail
        go_ret
        exact ⟨by first | rfl | (simp; done), below_trans bW (below_trans b013 b14)⟩)
    go_enter Try.func13, Try.ntmps13
    go_wp2_with fail
    rw [← HW.out]
    have hWs : W.heap.size = w.heap.size + 1 + 1 := by rw [HW.out]; simp [go_sem]
    have hbx : Byts (W.alloc (Obj.cells #[Value.int .u8 x] 5)) (some ⟨w.heap.size + 1 + 1, 0, none⟩) [x] := by
      have := byts_new W [x] (by simpa using hi1)
      rw [hWs] at this; exact this
    refine (HOF.out [x] _ _ 1 rfl (bel_alloc (Below.refl _ _) _) hbx (by simp) (by simp)).mono ?_
    intro e w1 h
    obtain ⟨p1, c1, rfl, x1, -, -, b1⟩ := h.slice HQ1.out rfl
    clear h hbx
    have b01 := below_of W b1 (bel_alloc (Below.refl _ _) _)
    have X1 := Lib.hid x1
    clear x1 b1
    go_wp2_with fail
    refine (HOF.out [y] _ _ 1 rfl (bel_alloc b01 _) (byts_new w1 [y] (by simpa using hi2)) (by simp) (by simp)).mono ?_
    intro e w2 h
    obtain ⟨p2, c2, rfl, x2, -, -, b2⟩ := h.slice HQ2.out rfl
    clear h
    have b12 := below_of w1 b2 (bel_alloc (Below.refl _ _) _)
    have b02 := below_trans b01 b12
    have X2 := Lib.hid x2
    replace X1 := Lib.hid (X1.out.later b12)
    clear x2 b2
    go_wp2_with fail
    refine (Sum_any p1 q1 c1 w2 X1.out (by omega)).mono ?_
    rintro e w3 ⟨rfl, b3⟩
    have b03 := below_trans b02 b3
    replace X2 := Lib.hid (X2.out.later b3)
    replace X1 := Lib.hid (X1.out.later b3)
    go_wp2_with fail
    refine (Sum_any p2 q2 c2 w3 X2.out (by omega)).mono ?_
    rintro e w4 ⟨rfl, b4⟩
    have b04 := below_trans b03 b4
    replace X1 := Lib.hid (X1.out.later b4)
    clear X2 b3 b4 b12 b03 b02 b01
    go_wp2_with fail
    refine (HOF.out [x, y] _ _ 2 rfl (bel_alloc b04 _) (byts_new w4 [x, y] (in8_two hi1 hi2)) (by simp) (by simp)).mono ?_
    intro e w5 h
    obtain ⟨p5, c5, rfl, x5, -, -, b5⟩ := h.slice HQ3.out rfl
    clear h
    have b45 := below_of w4 b5 (bel_alloc (Below.refl _ _) _)
    have b05 := below_trans b04 b45
    replace X1 := Lib.hid (X1.out.later b45)
    have X5 := Lib.hid x5
    clear x5 b5
    go_wp2_with fail
    refine (Sum_any p5 q3 c5 w5 X5.out (by omega)).mono ?_
    rintro e w6 ⟨rfl, b6⟩
    have b06 := below_trans b05 b6
    replace X1 := Lib.hid (X1.out.later b6)
    go_wp2_with fail
    refine (HOF.out [y, x] _ _ 2 rfl (bel_alloc b06 _) (byts_new w6 [y, x] (in8_two hi2 hi1)) (by simp) (by simp)).mono ?_
    intro e w7 h
    obtain ⟨p7, c7, rfl, x7, -, -, b7⟩ := h.slice HQ4.out rfl
    clear h
    have b67 := below_of w6 b7 (bel_alloc (Below.refl _ _) _)
    have b07 := below_trans b06 b67
    replace X1 := Lib.hid (X1.out.later b67)
    have X7 := Lib.hid x7
    clear x7 b7
    go_wp2_with fail
    refine (Sum_any p7 q4 c7 w7 X7.out (by omega)).mono ?_
    rintro e w8 ⟨rfl, b8⟩
    have b08 := below_trans b07 b8
    replace X1 := Lib.hid (X1.out.later b8)
    go_wp2_with fail
    have hc1n : p1 = none → c1 = 0 := fun h => by
      have := X1.out.cells 0 (by omega)
      obtain ⟨_, _, e, _⟩ := this
      rw [h] at e; cases e
    refine (Seal_any p1 q1 c1 w8 X1.out (by omega) hc1n).mono ?_
    intro e w9 h
    obtain ⟨p9, c9, rfl, x9, -, hp9, b9⟩ := h.slice HSE.out rfl
    clear h
    have b09 := below_trans b08 b9
    have X9 := Lib.hid x9
    have kk0 : w9.cell? ⟨w.heap.size, 0, none⟩ = some (.slice a0 xs.length cap0) := (HB0.out.later b09).cell 0
    have hlt0 : w.heap.size < w9.heap.size := (HB0.out.later b09).lt
    clear x9 b9 b8 b67 b6 b45
    have hS : ∀ w', Below w9.heap.size w9 w' → w'.cell? ⟨w.heap.size, 0, none⟩ = some (.slice a0 xs.length cap0) ∧ Below w9.heap.size w9 w' := fun w' h => ⟨by rw [h.cell (p := ⟨w.heap.size, 0, none⟩) hlt0]; exact kk0, h⟩
    have HS := Lib.hid hS
    clear hS
    have hpz : In64 (q1.length : Int) := by unfold In64; omega
    have HPZ := Lib.hid hpz
    clear hpz
    go_wp2_with fail
    go_region_held3 (fun w' => w'.cell? ⟨w.heap.size, 0, none⟩ = some (.slice a0 xs.length cap0) ∧ Below w9.heap.size w9 w')
      (first
        | exact HS.out _ (by repeat (first | exact Below.refl _ _ | assumption | refine bel_drew ?_ | refine bel_alloc ?_ _)))
      (first
        | (go_at_call 16
           refine (Put_any (q1.length : Int) _ HPZ.out).mono ?_
           intro e w10 h
           obtain ⟨p10, c10, rfl, x10, -, -, b10⟩ := h.slice rfl HHD.out
           clear h x10
           have bb10 := below_of w9 b10 (by repeat (first | exact Below.refl _ _ | assumption | refine bel_drew ?_ | refine bel_alloc ?_ _))
           clear b10))
    all_goals (
      have hidx : hd + xs.length < se.length := by omega
      have b910 := bb10
      have b010 := below_trans b09 b910
      have X10 := Lib.hid (X9.out.later b910)
      have hsm := (bel_alloc (Below.refl w10.heap.size w10) (Obj.cells #[] 5)).size
      go_wp2_with (at_builtin; refine wpList_append_byts rfl (.tmp 74) (.tmp 75) rfl w10.heap.size _ [] rfl (OwnB.made0 w10) p9 se c9 rfl (X10.out.later (bel_alloc (Below.refl _ _) _)) hp9 (by simp; omega) hsm ?_; intro v11 w11 T11 B11 G11; rw [List.nil_append] at T11; obtain ⟨g, c11, u11, rfl, hgb, k11, f11⟩ := T11.full (hd + xs.length) hidx; have HT11 := Lib.hid T11; clear T11 G11)
      have b011 := bel_base (Nat.le_refl _) (bel_alloc (Below.refl w10.heap.size w10) (Obj.cells #[] 5)) B11
      have T12 := HT11.out.put (hd + xs.length) y hi2
      rw [show (Value.slice (some ⟨g, 0, none⟩) se.length c11) = .slice (some ⟨g, 0, none⟩) (se.set (hd + xs.length) y).length c11 from by rw [List.length_set]] at T12
      obtain ⟨p12, c12, hv12, x12, hc12, hp12⟩ := T12.fits
      injection hv12 with e1 e2 e3
      subst e1 e3
      have hO := Open_any (some ⟨g, 0, none⟩) (se.set (hd + xs.length) y) c11 _ x12 (by rw [List.length_set]; omega) hc12 hp12
      rw [List.length_set] at hO
      refine hO.mono ?_
      clear hO
      intro e w13 h
      obtain ⟨er, q, n, cq, at_, hA, hB, rfl, b13⟩ := h.err
      clear h
      have b013 := below_trans b010 ((b011.setCell (p := ⟨g, hd + xs.length, none⟩) hgb (.int .u8 y)).trans (b13.mono (b011.setCell (p := ⟨g, hd + xs.length, none⟩) hgb (.int .u8 y)).size))
      clear x12 T12 b13 f11 k11 B11
      obtain rfl := hA (HOP.out.2 (by simp))
      go_wp2_with fail
      refine (alive_any w13).mono ?_
      rintro e w14 ⟨rfl, b14⟩
      go_wp2_with fail
      go_ret
      exact ⟨by first | rfl | (simp; done), below_trans bW (below_trans b013 b14)⟩)
  · have g0 : (600 : Int) < (xs.length : Int) + ys.length := by omega
    go_enter Try.func13, Try.ntmps13
    go_wp2_with fail
    rw [← HW.out]
    refine (alive_any W).mono ?_
    rintro e w1 ⟨rfl, b1⟩
    go_wp2_with fail
    go_ret
    exact ⟨rfl, below_trans bW b1⟩

end Go.Proofs.Ytljblkhjpnipgaa
