/-
  MEM: the walk of the law MemOne.
-/
import Derived.Test.YtnjpdgahjbijcaaMemE
import Derived.Test.YtnjpdgahjbijcaaMemH
import Derived.Deep.RegionHeld3
import Derived.Test.YtnjpdgahjbijcaaGet
import Derived.Deep.DeepCutAuto
import Derived.Deep.DeepMust
namespace Go.Proofs.Ytnjpdgahjbijcaa
open Go.ChangeShapes Go.WideShapes Go.ChangeAt Go.RowKit

theorem one_why (v o x : Int) : whyF [v].length 3 0 o x = 0 := by simp [whyF, rightB]
theorem one_do (v o x : Int) : doF [v] 3 0 o x = [if v = o then x else v] := by
  unfold doF; rw [if_pos (one_why v o x)]; unfold madeF; by_cases h : v = o <;> simp [h]
theorem one_told (v o x : Int) : toldF [v] 3 0 o x = (v, decide (v = o)) := by
  unfold toldF; rw [if_pos (one_why v o x)]; by_cases h : v = o <;> simp [wentF, h]

/-- a comparison of the one cell -/
def OnePost (w : World) (v y : Int) (ok : Bool) (e : Ending) (w' : World) : Prop :=
  ∃ g c, e = .returned (.tuple #[.agg #[.slice (some ⟨g, 0, none⟩) 1 c], .agg #[.int .i64 v, .bool ok], .int .i64 0]) ∧ Ints w' (some ⟨g, 0, none⟩) [y] ∧ Below w.heap.size w w' ∧ w.heap.size ≤ g ∧ g < w'.heap.size
theorem one_do_any (p : Option Addr) (v o x y : Int) (ok : Bool) (cap : Nat) (w : World) (h : Ints w p [v]) (hx : In64 x) (hy : (if v = o then x else v) = y) (hok : decide (v = o) = ok) :
    Calls Try.prog 11 #[.agg #[.slice p 1 cap], .agg #[.int .i64 3, .int .i64 0, .int .i64 o, .int .i64 x]] w (OnePost w v y ok) := by
  have hd := do_own p [v] cap 3 0 o x w h (by simp) hx
  unfold DoOwn at hd
  rw [one_do, one_told, one_why, hy, hok] at hd
  refine hd.mono ?_
  rintro e w' ⟨q, c, he, h1, h2, h3⟩
  obtain ⟨g, rfl, h4, h5⟩ := h3 rfl
  exact ⟨g, c, he, h1, h2, h4, h5⟩

/-- what a round's first statement leaves -/
def OMeet (wr : World) (v y : Int) (ok : Bool) (a r e : Value) (wx : World) : Prop :=
  ∃ b9 b10 g c, a = .pointer (some ⟨b9, 0, none⟩) ∧ r = .pointer (some ⟨b10, 0, none⟩) ∧ e = .int .i64 0 ∧ wx.cell? ⟨b9, 0, none⟩ = some (.slice (some ⟨g, 0, none⟩) 1 c) ∧ wx.cell? ⟨b10, 0, none⟩ = some (.int .i64 v) ∧ wx.cell? ⟨b10, 1, none⟩ = some (.bool ok) ∧
    Ints wx (some ⟨g, 0, none⟩) [y] ∧ Below wr.heap.size wr wx ∧ wr.heap.size ≤ g ∧ wr.heap.size ≤ b10

/-- what stands at the head of each round -/
def OneInv (w : World) (M : Nat) (v : Int) (wr : World) : Prop :=
  ∃ p c, Blk wr M 24 #[Value.slice p 1 c] ∧ Ints wr p [v] ∧ Below w.heap.size w wr

theorem Ints.one {w : World} {b : Nat} {t : TypeId} {v : Int} (h : Blk w b t #[Value.int .i64 v]) (hv : In64 v) : Ints w (some ⟨b, 0, none⟩) [v] := by
  refine ⟨fun i hi => ⟨b, 0, rfl, h.lt, ?_⟩, fun x hx => ?_⟩
  · simp only [List.length_cons, List.length_nil] at hi
    rcases i with _ | i
    · exact h.cell 0
    · omega
  · simp at hx; rw [hx]; exact hv

set_option maxRecDepth 40000 in
set_option maxHeartbeats 4000000 in
theorem walkMemOne (n : Int) (a1 : Option Addr) (len1 cap1 : Nat) (z1 : List Int) (w : World) 
    (hn : -9223372036854775808 ≤ n ∧ n ≤ 9223372036854775807) (h1 : IsRow .i64 w a1 len1 cap1 z1) :
    Calls Try.prog 9 #[.int .i64 n, .slice a1 len1 cap1] w fun e w' => e = .returned (.bool true) ∧ Below w.heap.size w w' := by
  obtain ⟨hx, hxl, hx2⟩ := Ints.of_row h1
  generalize z1.take len1 = xs at hx hxl
  subst hxl
  clear h1
  have HX := Lib.hid hx
  have HN : RowKit.Hid (In64 n) := Lib.hid hn
  clear hx hn
  by_cases hl : xs.length ≤ 20
  · have g1 : ¬ ((20 : Int) < xs.length) := by omega
    by_cases hl0 : xs.length = 0
    · have g2 : ((xs.length : Int) == 0) = true := by simp [hl0]
      have HL0 := Lib.hid hl0
      clear hl0
      go_enter Try.func9, Try.ntmps9
      go_wp2_with fail
      refine (shown_any _).mono ?_
      rintro e w1 ⟨rfl, hb1⟩
      go_wp2_with fail
      go_ret
      exact ⟨rfl, hb1⟩
    · have g2 : ((xs.length : Int) == 0) = false := by simp; intro h; exact hl0 (by rw [h]; rfl)
      obtain ⟨b0, off0, x0, e0, hbl0, ex0, ex1, hxr0⟩ := HX.out.at_ 0 (by omega)
      subst e0
      rw [Nat.add_zero] at ex0
      have EX1 := Lib.hid ex1
      have HR0 := Lib.hid hxr0
      have hpos : 0 < xs.length := by omega
      have HL0 := Lib.hid hpos
      clear hl0 hpos ex1 hxr0
      go_enter Try.func9, Try.ntmps9
      go_wp2_with fail
      refine (shown_any _).mono ?_
      rintro e w1 ⟨rfl, hb1⟩
      go_wp2_with fail
      obtain ⟨W, hW⟩ : ∃ W, W = (w1.alloc (Obj.cells #[Value.int .i64 n] 3)).alloc (Obj.cells #[Value.slice (some ⟨w1.heap.size, 0, none⟩) 1 1] 24) := ⟨_, rfl⟩
      have bW : Below w1.heap.size w1 W := by rw [hW]; exact bel_alloc (bel_alloc (Below.refl _ _) _) _
      have hi0 : OneInv w (w1.heap.size + 1) n W := by
        refine ⟨some ⟨w1.heap.size, 0, none⟩, 1, ?_, ?_, below_trans hb1 bW⟩
        · rw [hW]; have := Blk.made (w1.alloc (Obj.cells #[Value.int .i64 n] 3)) 24 #[Value.slice (some ⟨w1.heap.size, 0, none⟩) 1 1]; simpa [go_sem] using this
        · exact Ints.one (t := 3) (by rw [hW]; exact (Blk.made _ _ _).alloc _) HN.out
      rw [← hW]
      clear hW bW
      go_loopw [7, 8] (fun s i wr => ∃ k : Nat, k ≤ xs.length ∧ i = .int .i64 k ∧ ∃ v m, s = .int .i64 m ∧ OneInv w (w1.heap.size + 1) v wr ∧ (k = 0 → v = n ∧ m = 0) ∧ (0 < k → v = x0 ∧ m = 1 ∧ x0 ≠ n)) (fun _ i _ => xs.length - (intOf i).toNat)
      case atStart => exact ⟨0, Nat.zero_le _, rfl, n, 0, rfl, hi0, fun _ => ⟨rfl, rfl⟩, fun h => absurd h (by omega)⟩
      case round =>
        obtain ⟨k, hk, rfl, v, m, rfl, ⟨p, c, B, hi, hb⟩, hk0, hk1⟩ := hrel
        clear hi0
        by_cases hlt : k < xs.length
        · obtain ⟨b, off, x, e1, hbl0', ex0', ex1', hxr⟩ := HX.out.at_ k hlt
          injection e1 with e1
          injection e1 with e1b e1o
          subst e1b e1o
          have ex : wr.cell? ⟨b0, off0 + k, none⟩ = some (.int .i64 x) := by rw [hb.cell (p := ⟨b0, off0 + k, none⟩) hbl0']; exact ex0'
          have hbl : b0 < wr.heap.size := Nat.lt_of_lt_of_le hbl0' hb.size
          have hne : b0 ≠ w1.heap.size + 1 := by have := hb1.size; omega
          have hxk : k = 0 → x = x0 := fun h => by subst h; have := EX1.out; rw [ex1'] at this; injection this
          clear ex0' ex1' ex0
          by_cases hxn : x = n
          · have q1 : (x == n) = true := by simpa using hxn
            clear hk0 hk1 hxk
            subst hxn
            go_wp2_with fail
            go_ret
            exact ⟨rfl, hb⟩
          · have q1 : (x == n) = false := by simpa using hxn
            obtain ⟨ok, hok⟩ : ∃ ok : Bool, decide (k = 0) = ok := ⟨_, rfl⟩
            have hD : ∀ wx, Ints wx p [v] → Calls Try.prog 11 #[.agg #[.slice p 1 c], .agg #[.int .i64 3, .int .i64 0, .int .i64 n, .int .i64 x]] wx (OnePost wx v x0 ok) := fun wx h => by
              refine one_do_any p v n x x0 ok c wx h hxr ?_ ?_
              · by_cases h0 : k = 0
                · rw [if_pos (hk0 h0).1, hxk h0]
                · have := hk1 (by omega)
                  rw [this.1, if_neg this.2.2]
              · rw [← hok]
                by_cases h0 : k = 0
                · simp [h0, (hk0 h0).1]
                · have := hk1 (by omega)
                  simp [h0, this.1, this.2.2]
            have hzz : ((k : Int) == 0) = ok := by rw [← hok]; rw [Bool.eq_iff_iff]; simp
            have hx0n : x0 ≠ n := by
              by_cases h0 : k = 0
              · rw [← hxk h0]; exact hxn
              · exact (hk1 (by omega)).2.2
            have hm1 : (if ok then m + 1 else m) = 1 ∧ (ok = true → m = 0) ∧ (ok = false → m = 1) := by
              rw [← hok]
              by_cases h0 : k = 0
              · have := hk0 h0; simp [h0, this.2]
              · have := hk1 (by omega); simp [h0, this.2.1]
            have HX0 := Lib.hid hx0n
            have HM := Lib.hid hm1
            have HD := Lib.hid hD
            have HI := Lib.hid hi
            have HB := Lib.hid hb
            have HXR := Lib.hid hxr
            have hbb : Blk wr (w1.heap.size + 1) 24 #[Value.slice p 1 c] := B
            have HBB := Lib.hid hbb
            have hm : w1.heap.size + 1 < wr.heap.size := B.lt
            have c1 : wr.cell? ⟨w1.heap.size + 1, 0, none⟩ = some (.slice p 1 c) := B.cell 0
            clear hD hi hb hxr hbb B hx0n hm1 hk0 hk1 hxk hok hxn
            have hS : ∀ w', Below wr.heap.size wr w' → w'.cell? ⟨w1.heap.size + 1, 0, none⟩ = some (.slice p 1 c) ∧ w'.cell? ⟨b0, off0 + k, none⟩ = some (.int .i64 x) ∧ Below wr.heap.size wr w' := by
              intro w' hb
              exact ⟨by rw [hb.cell (p := ⟨w1.heap.size + 1, 0, none⟩) hm]; exact c1, by rw [hb.cell (p := ⟨b0, off0 + k, none⟩) hbl]; exact ex, hb⟩
            have HS := Lib.hid hS
            clear hS
            go_wp2_with fail
            go_upto_region 11 with (fail)
            go_cut [9, 10, 11] (fun a r e wx => OMeet wr v x0 ok a r e wx)
            case first =>
              go_region_held3 (fun w' => w'.cell? ⟨w1.heap.size + 1, 0, none⟩ = some (.slice p 1 c) ∧ w'.cell? ⟨b0, off0 + k, none⟩ = some (.int .i64 x) ∧ Below wr.heap.size wr w')
                (first
                  | exact HS.out _ (by repeat (first | exact Below.refl _ _ | assumption | refine bel_drew ?_ | refine bel_alloc ?_ _ | refine bel_set ?_ _ _ _ (by first | exact Nat.le_refl _ | (simp; done) | (simp; omega)))))
                (first
                  | (go_at_call 11
                     refine (HD.out _ ?_).mono ?_
                     · refine HI.out.later ?_
                       repeat (first | exact Below.refl _ _ | assumption | refine bel_drew ?_ | refine bel_alloc ?_ _ | refine bel_set ?_ _ _ _ (by first | exact Nat.le_refl _ | (simp; done) | (simp; omega)))
                     rintro e w3 ⟨g3, c3', rfl, hi3, hb3, hg3, hg4⟩
                     obtain ⟨bc3, bf3⟩ := bcell hb3
                     have hsz3 := hb3.size
                     have hwr3 := below_of wr hb3 (by repeat (first | exact Below.refl _ _ | assumption | refine bel_drew ?_ | refine bel_alloc ?_ _ | refine bel_set ?_ _ _ _ (by first | exact Nat.le_refl _ | (simp; done) | (simp; omega))))
                     have HI3 := Lib.hid hi3
                     clear hi3
                     try (have hz4 : wr.heap.size < w3.heap.size := (by simp [go_sem] at hsz3; omega))
                     try (have hz5 : wr.heap.size + 1 < w3.heap.size := (by simp [go_sem] at hsz3; omega))
                     simp [go_sem] at hg3
                     clear hsz3))
              all_goals (go_wp2_with fail; go_meet)
              all_goals (
                have hs3 := hwr3.size
                refine ⟨_, _, g3, c3', rfl, rfl, rfl, ?_, ?_, ?_, ?_, ?_, ?_, ?_⟩
                · first | (simp [go_sem]; done) | (repeat (first | (simp [go_sem]; done) | refine get_same ?_ | refine get_alloc ?_ | refine get_far ?_ (by simp; done) | refine Has.set ?_ _ _ | (unfold Has; rw [bc3 _ _ (by simp [go_sem])]; simp [go_sem]; done)))
                · first | (simp [go_sem]; done) | (repeat (first | (simp [go_sem]; done) | refine get_same ?_ | refine get_alloc ?_ | refine get_far ?_ (by simp; done) | refine Has.set ?_ _ _ | (unfold Has; rw [bc3 _ _ (by simp [go_sem])]; simp [go_sem]; done)))
                · first | (simp [go_sem]; done) | (repeat (first | (simp [go_sem]; done) | refine get_same ?_ | refine get_alloc ?_ | refine get_far ?_ (by simp; done) | refine Has.set ?_ _ _ | (unfold Has; rw [bc3 _ _ (by simp [go_sem])]; simp [go_sem]; done)))
                · repeat (first | exact HI3.out | refine Ints.later ?_ (bel_alloc (Below.refl _ _) _) | refine Ints.far ?_ _ _ (fun _ b' o' e => by injection e with e; injection e with e1 _; subst e1; dsimp only; omega))
                · repeat (first | exact Below.refl _ _ | assumption | refine bel_drew ?_ | refine bel_alloc ?_ _ | refine bel_set ?_ _ _ _ (by first | exact Nat.le_refl _ | (simp; done) | (simp; omega)))
                · omega
                · omega)
            case rest =>
              obtain ⟨b9, b10, g, c', rfl, rfl, rfl, d0, r0, r1, hi3, hb3, hg3, hg10⟩ := hcut
              have B3 := HBB.out.later hb3
              have f3 := B3.free 0
              have m3 : wc.cell? ⟨w1.heap.size + 1, 0, none⟩ = some (.slice p 1 c) := B3.cell 0
              have HI3 := Lib.hid hi3
              have HB3 := Lib.hid hb3
              have BB3 := Lib.hid B3
              have hn10 : b10 ≠ w1.heap.size + 1 := by omega
              have hn10' : w1.heap.size + 1 ≠ b10 := by omega
              clear hi3 hb3 B3 c1 ex
              have HZ := Lib.hid hzz
              cases ok
              all_goals (
                have hz := HZ.out
                obtain ⟨hm0, hm1, hm2⟩ := HM.out
                first | (obtain rfl := hm1 rfl) | (obtain rfl := hm2 rfl)
                clear hzz hm0 hm1 hm2 HM HZ HD
                go_wp2_with fail
                go_roundw
                case rel =>
                  refine ⟨k + 1, by omega, by go_num, x0, 1, by first | rfl | go_num, ⟨some ⟨g, 0, none⟩, c', ?_, ?_, ?_⟩, fun h => by omega, fun _ => ⟨rfl, rfl, HX0.out⟩⟩
                  · exact BB3.out.put 0 _
                  · exact HI3.out.far _ _ (fun _ b' o' e => by injection e with e; injection e with e1 _; subst e1; dsimp only; omega)
                  · exact (HB.out.trans (HB3.out.mono HB.out.size)).setCell (by have := hb1.size; simp; omega) _
                case measure => simp [intOf]; omega)
        · obtain rfl : k = xs.length := by omega
          obtain ⟨rfl, rfl, hx0n⟩ := hk1 HL0.out
          have c1 : wr.cell? ⟨w1.heap.size + 1, 0, none⟩ = some (.slice p 1 c) := B.cell 0
          have ex : wr.cell? ⟨b0, off0, none⟩ = some (.int .i64 v) := by rw [hb.cell (p := ⟨b0, off0, none⟩) hbl0]; exact ex0
          have hbl : b0 < wr.heap.size := Nat.lt_of_lt_of_le hbl0 hb.size
          have HI := Lib.hid hi
          have HB := Lib.hid hb
          have hm : w1.heap.size + 1 < wr.heap.size := B.lt
          have hpos : (0 : Int) < xs.length := by have := HL0.out; omega
          have hxne : ¬ xs = [] := by intro h; have := HL0.out; rw [h] at this; simp at this
          have hpos2 : 0 < xs.length := HL0.out
          clear hi hb B hk0 hk1 hx0n ex0
          have hS : ∀ w', Below wr.heap.size wr w' → w'.cell? ⟨w1.heap.size + 1, 0, none⟩ = some (.slice p 1 c) ∧ w'.cell? ⟨b0, off0, none⟩ = some (.int .i64 v) ∧ Below wr.heap.size wr w' := by
            intro w' hb
            exact ⟨by rw [hb.cell (p := ⟨w1.heap.size + 1, 0, none⟩) hm]; exact c1, by rw [hb.cell (p := ⟨b0, off0, none⟩) hbl]; exact ex, hb⟩
          have HS := Lib.hid hS
          clear hS
          go_wp2_with fail
          go_region_held3 (fun w' => w'.cell? ⟨w1.heap.size + 1, 0, none⟩ = some (.slice p 1 c) ∧ w'.cell? ⟨b0, off0, none⟩ = some (.int .i64 v) ∧ Below wr.heap.size wr w')
            (first
              | exact HS.out _ (by repeat (first | exact Below.refl _ _ | assumption | refine bel_drew ?_ | refine bel_alloc ?_ _ | refine bel_set ?_ _ _ _ (by first | exact Nat.le_refl _ | (simp; done) | (simp; omega)))))
            (first
              | (go_at_call 16
                 refine (rsame_any p _ [v] [v] c 1 _ (HI.out.later ?_) (Ints.one (t := 3) (show Blk (wr.alloc (Obj.cells #[Value.int .i64 v] 3)).drew wr.heap.size 3 #[Value.int .i64 v] from Blk.made wr _ _) HR0.out) (by simp) (by simp)).mono ?_
                 · repeat (first | exact Below.refl _ _ | assumption | refine bel_drew ?_ | refine bel_alloc ?_ _ | refine bel_set ?_ _ _ _ (by first | exact Nat.le_refl _ | (simp; done) | (simp; omega)))
                 rw [show decide (([v] : List Int) = [v]) = true from by simp]
                 rintro e w3 ⟨rfl, hb3⟩
                 have hwr3 := below_of wr hb3 (by repeat (first | exact Below.refl _ _ | assumption | refine bel_drew ?_ | refine bel_alloc ?_ _ | refine bel_set ?_ _ _ _ (by first | exact Nat.le_refl _ | (simp; done) | (simp; omega))))))
          all_goals (go_wp2_with fail)
          all_goals go_ret
          all_goals exact ⟨rfl, HB.out.trans (hwr3.mono HB.out.size)⟩
  · have g1 : (20 : Int) < xs.length := by omega
    go_enter Try.func9, Try.ntmps9
    go_wp2_with fail
    refine (shown_any _).mono ?_
    rintro e w1 ⟨rfl, hb1⟩
    go_wp2_with fail
    go_ret
    exact ⟨rfl, hb1⟩

end Go.Proofs.Ytnjpdgahjbijcaa
