/-
  OM: Behind and Before where they may not; the document's Right and Ints.
-/
import Derived.Test.YtpikiehipeecoaaOmH
namespace Go.Proofs.Ytpikiehipeecoaa
open Go.ChangeShapes Go.WideShapes Go.ChangeAt Go.RowKit Go.Sort

theorem behind_at (l L : List Int) (n m x : Nat) (xi ni : Int) (hl : l.length = n) (hrt : Rt l) (hn : n < 1000) (hx : x < n) (hm : n + 1 = m) (hxi : (x : Int) = xi) (hni : (n : Int) = ni) (hL : behL l x = L) (p : Option Addr) (c : Nat) (w : World) (h : Nums w p c l) :
    Calls Try.prog 10 #[.agg #[.slice p n c], .int .i64 xi] w (BehPost w L m ni 0) := by
  subst hm hxi hni hL
  exact behind_any l n hl hrt hn p c x hx w h

set_option maxRecDepth 100000 in
set_option maxHeartbeats 4000000 in
theorem behind_bad (l : List Int) (n : Nat) (hl : l.length = n) (hrt : ¬ Rt l) (hn : n ≤ 1000000) (p : Option Addr) (c : Nat) (xi : Int) (x : Nat) (hxi : (x : Int) = xi)  (w : World) (h : Nums w p c l) :
    Calls Try.prog 10 #[.agg #[.slice p n c], .int .i64 xi] w (BehPost w l n 0 1) := by
  subst hxi
  obtain ⟨W, hW⟩ : ∃ W, W = (w.alloc (Obj.cells #[.slice p n c] 26)).alloc (Obj.cells #[.slice none 0 0] 26) := ⟨_, rfl⟩
  have hb0 : Below w.heap.size w W := by rw [hW]; exact below_alloc2 _ _ _
  have K0 : Blk W w.heap.size 26 #[.slice p n c] := by rw [hW]; exact (Blk.made _ _ _).alloc _
  have K1 : Blk W (w.heap.size + 1) 26 #[.slice none 0 0] := by
    rw [hW]
    have := Blk.made (w.alloc (Obj.cells #[.slice p n c] 26)) 26 #[.slice none 0 0]
    rwa [World.size_alloc] at this
  have hR := right_any l n hl (by omega) p c W (h.later hb0)
  rw [decide_eq_false hrt] at hR
  have HR := Lib.hid hR
  have HW := Lib.hid hW
  have HK0 := Lib.hid K0
  have HK1 := Lib.hid K1
  have HB := Lib.hid hb0
  have HN := Lib.hid h
  clear hW K0 K1 hb0 hR h hl hrt
  go_enter Try.func10, Try.ntmps10
  go_wp2_with fail
  rw [← HW.out]
  refine HR.out.mono ?_
  rintro e w1 ⟨rfl, hb1⟩
  have c1 := (HK0.out.later hb1).cell 0
  have B1 := HK1.out.later hb1
  have r1 := B1.cell 0
  have f1 := B1.free 0
  have E1 := Lib.hid (B1.put 0 (.slice p n c))
  have hbw : Below w.heap.size w w1 := HB.out.trans (hb1.mono HB.out.size)
  have HN1 : Hid (Nums (w1.setCell ⟨w.heap.size + 1, 0, none⟩ (.slice p n c)) p c l) := Lib.hid ((HN.out.later hbw).far _ _ _ (fun h0 b off e => by
    have := HN.out.below h0 b off e
    omega))
  have HB1 : Hid (Below w.heap.size w (w1.setCell ⟨w.heap.size + 1, 0, none⟩ (.slice p n c))) := Lib.hid (hbw.setCell (p := ⟨w.heap.size + 1, 0, none⟩) (Nat.le_succ _) _)
  clear hb1 hbw B1
  go_wp2_with fail
  have e0 := E1.out.cell 0
  clear r1 f1 c1
  exact bodyPost_ret (v := .tuple #[.agg #[.slice p n c], .int .i64 0, .int .i64 1]) (by simp [results, Try.results10, go_sem, e0]) rfl ⟨_, _, rfl, HN1.out, HB1.out⟩

set_option maxRecDepth 100000 in
set_option maxHeartbeats 4000000 in
theorem behind_out (l : List Int) (n : Nat) (hl : l.length = n) (hrt : Rt l) (p : Option Addr) (c : Nat) (xi : Int) (x : Nat) (hxi : (x : Int) = xi) (hx : n ≤ x) (w : World) (h : Nums w p c l) :
    Calls Try.prog 10 #[.agg #[.slice p n c], .int .i64 xi] w (BehPost w l n 0 1) := by
  subst hxi
  obtain ⟨W, hW⟩ : ∃ W, W = (w.alloc (Obj.cells #[.slice p n c] 26)).alloc (Obj.cells #[.slice none 0 0] 26) := ⟨_, rfl⟩
  have hb0 : Below w.heap.size w W := by rw [hW]; exact below_alloc2 _ _ _
  have K0 : Blk W w.heap.size 26 #[.slice p n c] := by rw [hW]; exact (Blk.made _ _ _).alloc _
  have K1 : Blk W (w.heap.size + 1) 26 #[.slice none 0 0] := by
    rw [hW]
    have := Blk.made (w.alloc (Obj.cells #[.slice p n c] 26)) 26 #[.slice none 0 0]
    rwa [World.size_alloc] at this
  have hR := right_any l n hl (by have := hrt.2.1; omega) p c W (h.later hb0)
  rw [decide_eq_true hrt] at hR
  have HR := Lib.hid hR
  have HW := Lib.hid hW
  have HK0 := Lib.hid K0
  have HK1 := Lib.hid K1
  have HB := Lib.hid hb0
  have HN := Lib.hid h
  have g1 : decide ((x : Int) < 0) = false := by simp
  have g2 : decide ((n : Int) ≤ x) = true := by simp; omega
  clear hW K0 K1 hb0 hR h hl hrt
  go_enter Try.func10, Try.ntmps10
  go_wp2_with fail
  rw [← HW.out]
  refine HR.out.mono ?_
  rintro e w1 ⟨rfl, hb1⟩
  have c1 := (HK0.out.later hb1).cell 0
  have B1 := HK1.out.later hb1
  have r1 := B1.cell 0
  have f1 := B1.free 0
  have E1 := Lib.hid (B1.put 0 (.slice p n c))
  have hbw : Below w.heap.size w w1 := HB.out.trans (hb1.mono HB.out.size)
  have HN1 : Hid (Nums (w1.setCell ⟨w.heap.size + 1, 0, none⟩ (.slice p n c)) p c l) := Lib.hid ((HN.out.later hbw).far _ _ _ (fun h0 b off e => by
    have := HN.out.below h0 b off e
    omega))
  have HB1 : Hid (Below w.heap.size w (w1.setCell ⟨w.heap.size + 1, 0, none⟩ (.slice p n c))) := Lib.hid (hbw.setCell (p := ⟨w.heap.size + 1, 0, none⟩) (Nat.le_succ _) _)
  clear hb1 hbw B1
  go_wp2_with fail
  have e0 := E1.out.cell 0
  clear r1 f1 c1
  exact bodyPost_ret (v := .tuple #[.agg #[.slice p n c], .int .i64 0, .int .i64 1]) (by simp [results, Try.results10, go_sem, e0]) rfl ⟨_, _, rfl, HN1.out, HB1.out⟩

set_option maxRecDepth 100000 in
set_option maxHeartbeats 4000000 in
theorem behind_full (l : List Int) (n : Nat) (hl : l.length = n) (hrt : Rt l) (hn : n = 1000) (p : Option Addr) (c : Nat) (xi : Int) (x : Nat) (hxi : (x : Int) = xi) (hx : x < n) (w : World) (h : Nums w p c l) :
    Calls Try.prog 10 #[.agg #[.slice p n c], .int .i64 xi] w (BehPost w l n 0 2) := by
  subst hxi
  obtain ⟨W, hW⟩ : ∃ W, W = (w.alloc (Obj.cells #[.slice p n c] 26)).alloc (Obj.cells #[.slice none 0 0] 26) := ⟨_, rfl⟩
  have hb0 : Below w.heap.size w W := by rw [hW]; exact below_alloc2 _ _ _
  have K0 : Blk W w.heap.size 26 #[.slice p n c] := by rw [hW]; exact (Blk.made _ _ _).alloc _
  have K1 : Blk W (w.heap.size + 1) 26 #[.slice none 0 0] := by
    rw [hW]
    have := Blk.made (w.alloc (Obj.cells #[.slice p n c] 26)) 26 #[.slice none 0 0]
    rwa [World.size_alloc] at this
  have hR := right_any l n hl (by have := hrt.2.1; omega) p c W (h.later hb0)
  rw [decide_eq_true hrt] at hR
  have HR := Lib.hid hR
  have HW := Lib.hid hW
  have HK0 := Lib.hid K0
  have HK1 := Lib.hid K1
  have HB := Lib.hid hb0
  have HN := Lib.hid h
  have g1 : decide ((x : Int) < 0) = false := by simp
  have g2 : decide ((n : Int) ≤ x) = false := by simp; omega
  have g3 : decide ((n : Int) = 1000) = true := by simp; omega
  have g4 : ((n : Int) == 1000) = true := by simp; omega
  clear hn
  clear hW K0 K1 hb0 hR h hl hrt
  go_enter Try.func10, Try.ntmps10
  go_wp2_with fail
  rw [← HW.out]
  refine HR.out.mono ?_
  rintro e w1 ⟨rfl, hb1⟩
  have c1 := (HK0.out.later hb1).cell 0
  have B1 := HK1.out.later hb1
  have r1 := B1.cell 0
  have f1 := B1.free 0
  have E1 := Lib.hid (B1.put 0 (.slice p n c))
  have hbw : Below w.heap.size w w1 := HB.out.trans (hb1.mono HB.out.size)
  have HN1 : Hid (Nums (w1.setCell ⟨w.heap.size + 1, 0, none⟩ (.slice p n c)) p c l) := Lib.hid ((HN.out.later hbw).far _ _ _ (fun h0 b off e => by
    have := HN.out.below h0 b off e
    omega))
  have HB1 : Hid (Below w.heap.size w (w1.setCell ⟨w.heap.size + 1, 0, none⟩ (.slice p n c))) := Lib.hid (hbw.setCell (p := ⟨w.heap.size + 1, 0, none⟩) (Nat.le_succ _) _)
  clear hb1 hbw B1
  go_wp2_with fail
  have e0 := E1.out.cell 0
  clear r1 f1 c1
  exact bodyPost_ret (v := .tuple #[.agg #[.slice p n c], .int .i64 0, .int .i64 2]) (by simp [results, Try.results10, go_sem, e0]) rfl ⟨_, _, rfl, HN1.out, HB1.out⟩

set_option maxRecDepth 100000 in
set_option maxHeartbeats 4000000 in
theorem before_up (l : List Int) (n : Nat) (hl : l.length = n) (hrt : Rt l) (p : Option Addr) (c : Nat) (x : Nat) (hx : x < n) (w : World) (h : Nums w p c l) :
    Calls Try.prog 14 #[.agg #[.slice p n c], .int .i64 x, .int .i64 n] w fun e w' => e = .returned (.bool false) ∧ Below w.heap.size w w' := by
  obtain ⟨W, hW⟩ : ∃ W, W = w.alloc (Obj.cells #[.slice p n c] 26) := ⟨_, rfl⟩
  have hb0 : Below w.heap.size w W := by rw [hW]; exact below_alloc1 _ _
  have K0 : Blk W w.heap.size 26 #[.slice p n c] := by rw [hW]; exact Blk.made _ _ _
  have hn : n ≤ 1000 := by have := hrt.2.1; omega
  have hNW := h.later hb0
  have k0 := fun (y : After W) => (y.cell K0.lt).trans (K0.cell 0)
  have k0' : ∀ y : After W, World.cell? _ ⟨w.heap.size, 0, none⟩ = some (.slice p n c) := k0
  have b0 : W.cell? ⟨w.heap.size, 0, none⟩ = some (.slice p n c) := K0.cell 0
  have HCR := Lib.hid fun (y : After W) => (show Calls Try.prog 13 #[.agg #[.slice p n c]] y.w fun e w' => e = .returned (.bool true) ∧ Below y.w.heap.size y.w w' from by
    have := right_any l n hl (by omega) _ c y.w (hNW.later y.bel)
    rwa [decide_eq_true hrt] at this)
  have HW := Lib.hid hW
  have HB := Lib.hid hb0
  have d1 : decide ((0 : Int) ≤ x) = true := by simp
  have d2 : decide ((0 : Int) ≤ n) = true := by simp
  have d3 : decide ((x : Int) < n) = true := by simp; omega
  have d4 : decide ((n : Int) < n) = false := by simp
  clear hW hb0 K0 hrt hl hNW h k0
  go_enter Try.func14, Try.ntmps14
  go_wp2_with fail
  rw [← HW.out]
  refine wp_region_after (by kernel_rfl) (by kernel_rfl) ?_
  repeat (go_big_quiet_step (first | (go_at_call 13; with_reducible exact calls_after (HCR.out _))))
  refine wpQuiet_nil ?_
  rintro _ ⟨y, rfl⟩
  have hby := HB.out.trans (y.bel.mono HB.out.size)
  have HBY := Lib.hid hby
  clear hby
  go_wp2_with fail
  go_ret
  exact ⟨rfl, HBY.out⟩

set_option maxRecDepth 100000 in
set_option maxHeartbeats 4000000 in
theorem before_neg (l : List Int) (n : Nat) (hl : l.length = n) (hrt : Rt l) (p : Option Addr) (c : Nat) (x : Nat) (w : World) (h : Nums w p c l) :
    Calls Try.prog 14 #[.agg #[.slice p n c], .int .i64 (-1), .int .i64 x] w fun e w' => e = .returned (.bool false) ∧ Below w.heap.size w w' := by
  obtain ⟨W, hW⟩ : ∃ W, W = w.alloc (Obj.cells #[.slice p n c] 26) := ⟨_, rfl⟩
  have hb0 : Below w.heap.size w W := by rw [hW]; exact below_alloc1 _ _
  have K0 : Blk W w.heap.size 26 #[.slice p n c] := by rw [hW]; exact Blk.made _ _ _
  have hn : n ≤ 1000 := by have := hrt.2.1; omega
  have hNW := h.later hb0
  have k0 := fun (y : After W) => (y.cell K0.lt).trans (K0.cell 0)
  have k0' : ∀ y : After W, World.cell? _ ⟨w.heap.size, 0, none⟩ = some (.slice p n c) := k0
  have b0 : W.cell? ⟨w.heap.size, 0, none⟩ = some (.slice p n c) := K0.cell 0
  have HCR := Lib.hid fun (y : After W) => (show Calls Try.prog 13 #[.agg #[.slice p n c]] y.w fun e w' => e = .returned (.bool true) ∧ Below y.w.heap.size y.w w' from by
    have := right_any l n hl (by omega) _ c y.w (hNW.later y.bel)
    rwa [decide_eq_true hrt] at this)
  have HW := Lib.hid hW
  have HB := Lib.hid hb0
  have d1 : decide ((0 : Int) ≤ -1) = false := by simp
  clear hW hb0 K0 hrt hl hNW h k0
  go_enter Try.func14, Try.ntmps14
  go_wp2_with fail
  rw [← HW.out]
  refine wp_region_after (by kernel_rfl) (by kernel_rfl) ?_
  repeat (go_big_quiet_step (first | (go_at_call 13; with_reducible exact calls_after (HCR.out _))))
  refine wpQuiet_nil ?_
  rintro _ ⟨y, rfl⟩
  have hby := HB.out.trans (y.bel.mono HB.out.size)
  have HBY := Lib.hid hby
  clear hby
  go_wp2_with fail
  go_ret
  exact ⟨rfl, HBY.out⟩

theorem ints_eq (p1 p2 : Option Addr) (n c1 c2 : Nat) (xs : List Int) (hl : xs.length = n) (hn : n ≤ 1000) (w : World) (h1 : Nums w p1 c1 xs) (h2 : Nums w p2 c2 xs) :
    Calls Try.prog 11 #[.slice p1 n c1, .slice p2 n c2] w fun e w' => e = .returned (.bool true) ∧ Below w.heap.size w w' := by
  have H1 := Lib.hid h1
  have H2 := Lib.hid h2
  have HL := Lib.hid hl
  clear h1 h2 hl
  go_enter Try.func11, Try.ntmps11
  go_wp2_with fail
  go_loopw [5] (fun i wr => ∃ k : Nat, i = .int .i64 k ∧ k ≤ n ∧ Below w.heap.size w wr) (fun i _ => n - (intOf i).toNat)
  case atStart => exact ⟨0, rfl, Nat.zero_le _, Below.refl _ _⟩
  case round =>
    obtain ⟨k, rfl, hk, hb⟩ := hrel
    rename_i wr
    by_cases hlt : k < n
    · obtain ⟨a1, o1, rfl, -, q0⟩ := (H1.out.later hb).at_ k (by rw [HL.out]; exact hlt)
      obtain ⟨a2, o2, rfl, -, q1⟩ := (H2.out.later hb).at_ k (by rw [HL.out]; exact hlt)
      generalize xs[k]'(by rw [HL.out]; exact hlt) = x at q0 q1
      have hlt2 : (k : Int) < n := by omega
      have hk0 : (0 : Int) ≤ k := by omega
      have HB := Lib.hid hb
      clear hb
      go_wp2_with fail
      go_quiet (fail)
      go_wp2_with fail
      go_roundw
      case rel => exact ⟨k + 1, by simp, by omega, bel_drewN HB.out _⟩
      case measure => simp [intOf]; omega
    · have hd : ¬ (k : Int) < n := by omega
      go_wp2_with fail
      go_ret
      exact ⟨rfl, hb⟩

/-- the first k labels are right among themselves -/
def RtTo (l : List Int) (k : Nat) : Prop := ∀ i, i < k → (0 ≤ l.getD i 0 ∧ l.getD i 0 ≤ 1099511627776) ∧ ∀ j, j < i → l.getD j 0 ≠ l.getD i 0
theorem RtTo.rt {l : List Int} (h : RtTo l l.length) (h1 : 1 ≤ l.length) (h2 : l.length ≤ 1000) : Rt l :=
  ⟨h1, h2, fun x hx => by obtain ⟨i, hi, rfl⟩ := mem_getD hx; exact (h i hi).1, nodup_of_getD fun i j hi hj hij => (h j hj).2 i hij⟩

set_option maxRecDepth 100000 in
set_option maxHeartbeats 4000000 in
theorem refright_any (l : List Int) (n : Nat) (hl : l.length = n) (p : Option Addr) (c : Nat) (w : World) (h : Nums w p c l) :
    Calls Try.prog 15 #[.agg #[.slice p n c]] w fun e w' => e = .returned (.bool (decide (Rt l))) ∧ Below w.heap.size w w' := by
  have HN := Lib.hid h
  have HL := Lib.hid hl
  have hb0 : Below w.heap.size w (w.alloc (Obj.cells #[.slice p n c] 26)) := below_alloc1 _ _
  by_cases h1 : n < 1
  · have d1 : decide ((n : Int) < 1) = true := by simp; omega
    have d2 : decide ((1000 : Int) < n) = false := by simp; omega
    have hr : Hid (decide (Rt l) = false) := Lib.hid (by simp; intro h; have := h.1; rw [HL.out] at this; omega)
    clear h hl
    go_enter Try.func15, Try.ntmps15
    go_wp2_with fail
    go_ret
    exact ⟨by rw [hr.out]; rfl, hb0⟩
  have d1 : decide ((n : Int) < 1) = false := by simp; omega
  by_cases h2 : 1000 < n
  · have d2 : decide ((1000 : Int) < n) = true := by simp; omega
    have hr : Hid (decide (Rt l) = false) := Lib.hid (by simp; intro h; have := h.2.1; rw [HL.out] at this; omega)
    clear h hl
    go_enter Try.func15, Try.ntmps15
    go_wp2_with fail
    go_ret
    exact ⟨by rw [hr.out]; rfl, hb0⟩
  have d2 : decide ((1000 : Int) < n) = false := by simp; omega
  obtain ⟨b, off, rfl, hlb, hcell⟩ := h.block (by omega)
  rw [hl] at hcell
  have HC : Hid (∀ wx, Below w.heap.size w wx → ∀ k, k < n → wx.cell? ⟨b, off + k, none⟩ = some (.int .i64 (l.getD k 0))) := Lib.hid fun wx hx k hk => (hx.cell (p := ⟨b, off + k, none⟩) hlb).trans (hcell k hk)
  have HB0 := Lib.hid hb0
  clear h hl hcell hb0
  go_enter Try.func15, Try.ntmps15
  go_wp2_with fail
  go_loopw [4] (fun i wr => ∃ k : Nat, i = .int .i64 k ∧ k ≤ n ∧ Hid (RtTo l k) ∧ ∃ W', W' = wr ∧ Hid (Below w.heap.size w W')) (fun i _ => n - (intOf i).toNat)
  case atStart => exact ⟨0, rfl, Nat.zero_le _, Lib.hid (fun i hi => absurd hi (by omega)), _, rfl, HB0⟩
  case round =>
    clear HB0
    obtain ⟨k, rfl, hk, HR, wr, rfl, HB⟩ := hrel
    by_cases hlt : k < n
    · have ck := HC.out wr HB.out k hlt
      obtain ⟨y, hy⟩ : ∃ y, l.getD k 0 = y := ⟨_, rfl⟩
      rw [hy] at ck
      have HY := Lib.hid hy
      have i1 : (0 : Int) ≤ k := by omega
      have i2 : (k : Int) < n := by omega
      have hno : (¬ (0 ≤ y ∧ y ≤ 1099511627776)) → Hid (decide (Rt l) = false) := fun hh => Lib.hid (by
        simp
        intro hr
        have := hr.2.2.1 _ (getD_mem (l := l) (i := k) (by rw [HL.out]; exact hlt))
        rw [HY.out] at this
        exact hh this)
      clear hy
      by_cases h3 : y < 0
      · have d3 : decide (y < 0) = true := by simpa using h3
        have d4 : decide (1099511627776 < y) = false := by simp; omega
        have hr := hno (by omega)
        clear hno
        go_wp2_with fail
        go_ret
        exact ⟨by rw [hr.out]; rfl, HB.out⟩
      have d3 : decide (y < 0) = false := by simpa using h3
      by_cases h4 : 1099511627776 < y
      · have d4 : decide (1099511627776 < y) = true := by simpa using h4
        have hr := hno (by omega)
        clear hno
        go_wp2_with fail
        go_ret
        exact ⟨by rw [hr.out]; rfl, HB.out⟩
      have d4 : decide (1099511627776 < y) = false := by simpa using h4
      have HY0 : Hid (0 ≤ y ∧ y ≤ 1099511627776) := Lib.hid ⟨by omega, by omega⟩
      clear hno h3 h4
      go_wp2_with fail
      clear d3 d4
      go_loopw [5] (fun i wq => ∃ j : Nat, i = .int .i64 j ∧ j ≤ k ∧ Hid (∀ q, q < j → l.getD q 0 ≠ y) ∧ ∃ W', W' = wq ∧ Hid (Below w.heap.size w W')) (fun i _ => k - (intOf i).toNat)
      case atStart => exact ⟨0, rfl, Nat.zero_le _, Lib.hid (fun i hi => absurd hi (by omega)), _, rfl, HB⟩
      case round =>
        clear HB ck
        obtain ⟨j, rfl, hj, HQ, wq, rfl, HB⟩ := hrel
        by_cases hjk : j < k
        · have ck := HC.out wq HB.out k hlt
          rw [HY.out] at ck
          have cj := HC.out wq HB.out j (by omega)
          obtain ⟨z, hz⟩ : ∃ y, l.getD j 0 = y := ⟨_, rfl⟩
          rw [hz] at cj
          have HZ := Lib.hid hz
          have j1 : (0 : Int) ≤ j := by omega
          have j2 : (j : Int) < n := by omega
          have j3 : decide ((j : Int) < k) = true := by simp; omega
          clear hz
          by_cases hzy : z = y
          · have hr : Hid (decide (Rt l) = false) := Lib.hid (by
              simp
              intro hr
              have := nodup_getD hr.2.2.2 (i := j) (j := k) (by rw [HL.out]; omega) (by rw [HL.out]; exact hlt) (by rw [HZ.out, HY.out, hzy])
              omega)
            have e1 : (z == y) = true := by simpa using hzy
            have e2 : decide (z = y) = true := by simpa using hzy
            subst hzy
            go_wp2_with fail
            go_quiet (fail)
            go_wp2_with fail
            go_ret
            exact ⟨by rw [hr.out]; rfl, bel_drewN HB.out _⟩
          · have e1 : (z == y) = false := by simpa using hzy
            have e2 : decide (z = y) = false := by simpa using hzy
            have HZY := Lib.hid hzy
            clear hzy
            go_wp2_with fail
            go_quiet (fail)
            go_wp2_with fail
            have HB2 := Lib.hid (bel_drewN HB.out nq)
            go_roundw
            case rel => exact ⟨j + 1, by simp, by omega, Lib.hid (fun q hq => by
              by_cases hqj : q < j
              · exact HQ.out q hqj
              · have : q = j := by omega
                subst this
                rw [HZ.out]; exact HZY.out), _, rfl, HB2⟩
            case measure => simp [intOf]; omega
        · have hd : decide ((j : Int) < k) = false := by simp; omega
          have hjk2 : j = k := by omega
          have HR2 : Hid (RtTo l (k + 1)) := Lib.hid (fun i hi => by
            by_cases hik : i < k
            · exact HR.out i hik
            · have : i = k := by omega
              subst this
              rw [HY.out]
              exact ⟨HY0.out, fun q hq => HQ.out q (by omega)⟩)
          clear hjk2
          go_wp2_with fail
          go_roundw
          case rel => exact ⟨k + 1, by simp, by omega, HR2, _, rfl, HB⟩
          case measure => simp [intOf]; omega
    · have hd : decide ((k : Int) < n) = false := by simp; omega
      have hr : Hid (decide (Rt l) = true) := Lib.hid (by
        simp
        have hkn : k = l.length := by rw [HL.out]; omega
        have := HR.out
        rw [hkn] at this
        exact this.rt (by rw [HL.out]; omega) (by rw [HL.out]; omega))
      go_wp2_with fail
      go_ret
      exact ⟨by rw [hr.out]; rfl, HB.out⟩
end Go.Proofs.Ytpikiehipeecoaa
