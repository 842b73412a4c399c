/-
  MEM: the walk of the law MemSums.
-/
import Derived.Test.YtnjpdgahjbijcaaMemE
import Derived.Test.YtnjpdgahjbijcaaMemH
import Derived.Deep.RegionHeld3
import Derived.Test.YtnjpdgahjbijcaaGet
import Derived.Deep.DeepCutAuto
import Derived.Deep.DeepMust
namespace Go.Proofs.Ytnjpdgahjbijcaa
open Go.ChangeShapes Go.WideShapes Go.ChangeAt Go.RowKit

/-- the sum so far -/
def sumTo (n : Int) (l : List Int) : Nat → Int
  | 0 => n
  | k + 1 => wrap64 (sumTo n l k + l.getD k 0)

theorem sums_why (s x : Int) : whyF [0, s].length 4 1 0 x = 0 := by simp [whyF, rightB]
theorem sums_do (s x : Int) : doF [0, s] 4 1 0 x = [0, wrap64 (s + x)] := by
  unfold doF; rw [if_pos (sums_why s x)]; simp [madeF]
theorem sums_told (s x : Int) : toldF [0, s] 4 1 0 x = (s, true) := by
  unfold toldF; rw [if_pos (sums_why s x)]; simp [wentF]
theorem wrap64_in (x : Int) : In64 (wrap64 x) := by unfold In64 wrap64; omega
theorem sumTo_in {n : Int} (hn : In64 n) (l : List Int) (k : Nat) : In64 (sumTo n l k) := by
  cases k with
  | zero => exact hn
  | succ k => exact wrap64_in _

/-- an addition to the second cell -/
def SumPost (w : World) (s x : Int) (e : Ending) (w' : World) : Prop :=
  ∃ g c, e = .returned (.tuple #[.agg #[.slice (some ⟨g, 0, none⟩) 2 c], .agg #[.int .i64 s, .bool true], .int .i64 0]) ∧ Ints w' (some ⟨g, 0, none⟩) [0, wrap64 (s + x)] ∧ Below w.heap.size w w' ∧ w.heap.size ≤ g ∧ g < w'.heap.size
theorem sums_do_any (p : Option Addr) (s x : Int) (cap : Nat) (w : World) (h : Ints w p [0, s]) (hx : In64 x) :
    Calls Try.prog 11 #[.agg #[.slice p 2 cap], .agg #[.int .i64 4, .int .i64 1, .int .i64 0, .int .i64 x]] w (SumPost w s x) := by
  have hd := do_own p [0, s] cap 4 1 0 x w h (by simp) hx
  unfold DoOwn at hd
  rw [sums_do, sums_told, sums_why] at hd
  refine hd.mono ?_
  rintro e w' ⟨q, c, he, h1, h2, h3⟩
  obtain ⟨g, rfl, h4, h5⟩ := h3 rfl
  exact ⟨g, c, he, h1, h2, h4, h5⟩

/-- what a round's first statement leaves -/
def SMeet (wr : World) (s x : Int) (a r e : Value) (wx : World) : Prop :=
  ∃ b9 b10 g c, a = .pointer (some ⟨b9, 0, none⟩) ∧ r = .pointer (some ⟨b10, 0, none⟩) ∧ e = .int .i64 0 ∧ wx.cell? ⟨b9, 0, none⟩ = some (.slice (some ⟨g, 0, none⟩) 2 c) ∧ wx.cell? ⟨b10, 0, none⟩ = some (.int .i64 s) ∧ wx.cell? ⟨b10, 1, none⟩ = some (.bool true) ∧
    Ints wx (some ⟨g, 0, none⟩) [0, wrap64 (s + x)] ∧ Below wr.heap.size wr wx ∧ wr.heap.size ≤ g

/-- what stands at the head of each round -/
def SumsInv (w : World) (M : Nat) (s : Int) (wr : World) : Prop :=
  ∃ p c, Blk wr M 24 #[Value.slice p 2 c] ∧ Ints wr p [0, s] ∧ Below w.heap.size w wr

set_option maxRecDepth 40000 in
set_option maxHeartbeats 4000000 in
theorem walkMemSums (a0 : Option Addr) (len0 cap0 : Nat) (z0 : List Int) (n : Int) (w : World) (h0 : IsRow .i64 w a0 len0 cap0 z0)
    (hn : -9223372036854775808 ≤ n ∧ n ≤ 9223372036854775807) :
    Calls Try.prog 8 #[.slice a0 len0 cap0, .int .i64 n] w fun e w' => e = .returned (.bool true) ∧ Below w.heap.size w w' := by
  obtain ⟨hx, hxl, hx2⟩ := Ints.of_row h0
  generalize z0.take len0 = xs at hx hxl
  subst hxl
  clear h0
  have HX := Lib.hid hx
  have HN : RowKit.Hid (In64 n) := Lib.hid hn
  clear hx hn
  by_cases hl : xs.length ≤ 40
  · have g1 : ¬ ((40 : Int) < xs.length) := by omega
    go_enter Try.func8, Try.ntmps8
    go_wp2_with fail
    refine (shown_any _).mono ?_
    rintro e w1 ⟨rfl, hb1⟩
    go_wp2_with fail
    obtain ⟨W, hW⟩ : ∃ W, W = (w1.alloc (Obj.cells #[Value.int .i64 0, Value.int .i64 n] 3)).alloc (Obj.cells #[Value.slice (some ⟨w1.heap.size, 0, none⟩) 2 2] 24) := ⟨_, rfl⟩
    have bW : Below w1.heap.size w1 W := by rw [hW]; exact bel_alloc (bel_alloc (Below.refl _ _) _) _
    have hi0 : SumsInv w (w1.heap.size + 1) (sumTo n xs 0) W := by
      refine ⟨some ⟨w1.heap.size, 0, none⟩, 2, ?_, ⟨fun i hi => ⟨w1.heap.size, 0, rfl, ?_, ?_⟩, ?_⟩, below_trans hb1 bW⟩
      · rw [hW]; have := Blk.made (w1.alloc (Obj.cells #[Value.int .i64 0, Value.int .i64 n] 3)) 24 #[Value.slice (some ⟨w1.heap.size, 0, none⟩) 2 2]; simpa [go_sem] using this
      · rw [hW]; simp [go_sem]
      · have h1 : Blk W w1.heap.size 3 #[Value.int .i64 0, Value.int .i64 n] := by rw [hW]; exact (Blk.made _ _ _).alloc _
        simp only [List.length_cons, List.length_nil] at hi
        rcases i with _ | _ | i
        · exact h1.cell 0
        · exact h1.cell 1
        · omega
      · intro x hx
        simp [sumTo] at hx
        rcases hx with rfl | rfl
        · unfold In64; omega
        · exact HN.out
    rw [← hW]
    clear hW bW
    go_loopw [7, 8] (fun s i wr => ∃ k : Nat, k ≤ xs.length ∧ s = .int .i64 (sumTo n xs k) ∧ i = .int .i64 k ∧ SumsInv w (w1.heap.size + 1) (sumTo n xs k) wr) (fun _ i _ => xs.length - (intOf i).toNat)
    case atStart => exact ⟨0, Nat.zero_le _, rfl, rfl, hi0⟩
    case round =>
      obtain ⟨k, hk, rfl, rfl, p, c, B, hi, hb⟩ := hrel
      clear hi0
      by_cases hlt : k < xs.length
      · obtain ⟨b, off, x, e1, hbl0, ex0, ex1, hxr⟩ := HX.out.at_ k hlt
        subst e1
        have ex : wr.cell? ⟨b, off + k, none⟩ = some (.int .i64 x) := by rw [hb.cell (p := ⟨b, off + k, none⟩) hbl0]; exact ex0
        have hbl : b < wr.heap.size := Nat.lt_of_lt_of_le hbl0 hb.size
        have hne : b ≠ w1.heap.size + 1 := by have := hb1.size; omega
        clear ex0
        have hs1 : sumTo n xs (k + 1) = wrap64 (sumTo n xs k + x) := by
          simp only [sumTo]; rw [List.getD_eq_getElem?_getD, ex1]; rfl
        have HS1 := Lib.hid hs1
        have hsr := sumTo_in HN.out xs k
        clear hs1 ex1
        generalize sumTo n xs k = s at *
        have c1 : wr.cell? ⟨w1.heap.size + 1, 0, none⟩ = some (.slice p 2 c) := B.cell 0
        have hD : ∀ wx, Ints wx p [0, s] → Calls Try.prog 11 #[.agg #[.slice p 2 c], .agg #[.int .i64 4, .int .i64 1, .int .i64 0, .int .i64 x]] wx (SumPost wx s x) := fun wx h => sums_do_any p s x c wx h hxr
        have HD := Lib.hid hD
        have HI := Lib.hid hi
        have HB := Lib.hid hb
        have HXR := Lib.hid hxr
        have HSR := Lib.hid hsr
        have hbb : Blk wr (w1.heap.size + 1) 24 #[Value.slice p 2 c] := B
        have HBB := Lib.hid hbb
        have hm : w1.heap.size + 1 < wr.heap.size := B.lt
        clear hD hi hb hxr hsr hbb B
        have hS : ∀ w', Below wr.heap.size wr w' → w'.cell? ⟨w1.heap.size + 1, 0, none⟩ = some (.slice p 2 c) ∧ w'.cell? ⟨b, off + k, none⟩ = some (.int .i64 x) ∧ Below wr.heap.size wr w' := by
          intro w' hb
          exact ⟨by rw [hb.cell (p := ⟨w1.heap.size + 1, 0, none⟩) hm]; exact c1, by rw [hb.cell (p := ⟨b, off + k, none⟩) hbl]; exact ex, hb⟩
        have HS := Lib.hid hS
        clear hS
        go_wp2_with fail
        go_upto_region 9 with (fail)
        go_cut [9, 10, 11] (fun a r e wx => SMeet wr s x a r e wx)
        case first =>
          go_region_held3 (fun w' => w'.cell? ⟨w1.heap.size + 1, 0, none⟩ = some (.slice p 2 c) ∧ w'.cell? ⟨b, off + k, none⟩ = some (.int .i64 x) ∧ Below wr.heap.size wr w')
            (first
              | exact HS.out _ (by repeat (first | exact Below.refl _ _ | assumption | refine bel_drew ?_ | refine bel_alloc ?_ _ | refine bel_set ?_ _ _ _ (by first | exact Nat.le_refl _ | (simp; done) | (simp; omega)))))
            (first
              | (go_at_call 11
                 refine (HD.out _ ?_).mono ?_
                 · refine HI.out.later ?_
                   repeat (first | exact Below.refl _ _ | assumption | refine bel_drew ?_ | refine bel_alloc ?_ _ | refine bel_set ?_ _ _ _ (by first | exact Nat.le_refl _ | (simp; done) | (simp; omega)))
                 rintro e w3 ⟨g3, c3', rfl, hi3, hb3, hg3, hg4⟩
                 obtain ⟨bc3, bf3⟩ := bcell hb3
                 have hsz3 := hb3.size
                 have hwr3 := below_of wr hb3 (by repeat (first | exact Below.refl _ _ | assumption | refine bel_drew ?_ | refine bel_alloc ?_ _ | refine bel_set ?_ _ _ _ (by first | exact Nat.le_refl _ | (simp; done) | (simp; omega))))
                 have HI3 := Lib.hid hi3
                 clear hi3
                 try (have hz4 : wr.heap.size < w3.heap.size := (by simp [go_sem] at hsz3; omega))
                 try (have hz5 : wr.heap.size + 1 < w3.heap.size := (by simp [go_sem] at hsz3; omega))
                 simp [go_sem] at hg3
                 clear hsz3))
          all_goals (go_wp2_with fail; go_meet)
          all_goals (
            refine ⟨_, _, g3, c3', rfl, rfl, rfl, ?_, ?_, ?_, ?_, ?_, ?_⟩
            · first | (simp [go_sem]; done) | (repeat (first | (simp [go_sem]; done) | refine get_same ?_ | refine get_alloc ?_ | refine get_far ?_ (by simp; done) | refine Has.set ?_ _ _ | (unfold Has; rw [bc3 _ _ (by simp [go_sem])]; simp [go_sem]; done)))
            · first | (simp [go_sem]; done) | (repeat (first | (simp [go_sem]; done) | refine get_same ?_ | refine get_alloc ?_ | refine get_far ?_ (by simp; done) | refine Has.set ?_ _ _ | (unfold Has; rw [bc3 _ _ (by simp [go_sem])]; simp [go_sem]; done)))
            · first | (simp [go_sem]; done) | (repeat (first | (simp [go_sem]; done) | refine get_same ?_ | refine get_alloc ?_ | refine get_far ?_ (by simp; done) | refine Has.set ?_ _ _ | (unfold Has; rw [bc3 _ _ (by simp [go_sem])]; simp [go_sem]; done)))
            · repeat (first | exact HI3.out | refine Ints.later ?_ (bel_alloc (Below.refl _ _) _) | refine Ints.far ?_ _ _ (fun _ b' o' e => by injection e with e; injection e with e1 _; subst e1; dsimp only; omega))
            · repeat (first | exact Below.refl _ _ | assumption | refine bel_drew ?_ | refine bel_alloc ?_ _ | refine bel_set ?_ _ _ _ (by first | exact Nat.le_refl _ | (simp; done) | (simp; omega)))
            · omega)
        case rest =>
          obtain ⟨b9, b10, g, c', rfl, rfl, rfl, d0, r0, r1, hi3, hb3, hg3⟩ := hcut
          have B3 := HBB.out.later hb3
          have f3 := B3.free 0
          have m3 : wc.cell? ⟨w1.heap.size + 1, 0, none⟩ = some (.slice p 2 c) := B3.cell 0
          have x3 : wc.cell? ⟨b, off + k, none⟩ = some (.int .i64 x) := by rw [hb3.cell (p := ⟨b, off + k, none⟩) hbl]; exact ex
          have HI3 := Lib.hid hi3
          have HB3 := Lib.hid hb3
          have BB3 := Lib.hid B3
          have hne2 : w1.heap.size + 1 ≠ b := fun h => hne h.symm
          clear hi3 hb3 B3 c1
          go_wp2_with fail
          go_roundw
          case rel =>
            refine ⟨k + 1, by omega, by rw [HS1.out], by go_num, some ⟨g, 0, none⟩, c', ?_, ?_, ?_⟩
            · exact BB3.out.put 0 _
            · rw [HS1.out]
              exact HI3.out.far _ _ (fun _ b' o' e => by injection e with e; injection e with e1 _; subst e1; dsimp only; omega)
            · exact (HB.out.trans (HB3.out.mono HB.out.size)).setCell (by have := hb1.size; simp; omega) _
          case measure => simp [intOf]; omega
      · obtain rfl : k = xs.length := by omega
        have c1 : wr.cell? ⟨w1.heap.size + 1, 0, none⟩ = some (.slice p 2 c) := B.cell 0
        have hsr := sumTo_in HN.out xs xs.length
        generalize sumTo n xs xs.length = s at *
        have HI := Lib.hid hi
        have HB := Lib.hid hb
        have HSR := Lib.hid hsr
        clear hi hb hsr B
        go_wp2_with fail
        obtain ⟨W3, hW3⟩ : ∃ W3, W3 = wr.alloc (Obj.cells #[Value.int .i64 0, Value.int .i64 s] 3) := ⟨_, rfl⟩
        have bW3 : Below wr.heap.size wr W3 := by rw [hW3]; exact bel_alloc (Below.refl _ _) _
        have I3 : Ints W3 (some ⟨wr.heap.size, 0, none⟩) [0, s] := by
          have h1 : Blk W3 wr.heap.size 3 #[Value.int .i64 0, Value.int .i64 s] := by rw [hW3]; exact Blk.made _ _ _
          refine ⟨fun i hi => ⟨wr.heap.size, 0, rfl, h1.lt, ?_⟩, fun x hx => ?_⟩
          · simp only [List.length_cons, List.length_nil] at hi
            rcases i with _ | _ | i
            · exact h1.cell 0
            · exact h1.cell 1
            · omega
          · simp at hx
            rcases hx with rfl | rfl
            · unfold In64; omega
            · exact HSR.out
        rw [← hW3]
        clear hW3
        refine (rsame_any p _ [0, s] [0, s] c 2 W3 (HI.out.later bW3) I3 (by simp) (by simp)).mono ?_
        rintro e w3 ⟨rfl, hb3⟩
        have hd : decide (([0, s] : List Int) = [0, s]) = true := by simp
        rw [hd]
        go_wp2_with fail
        go_ret
        exact ⟨rfl, HB.out.trans ((below_trans bW3 hb3).mono HB.out.size)⟩
  · have g1 : (40 : Int) < xs.length := by omega
    go_enter Try.func8, Try.ntmps8
    go_wp2_with fail
    refine (shown_any _).mono ?_
    rintro e w1 ⟨rfl, hb1⟩
    go_wp2_with fail
    go_ret
    exact ⟨rfl, hb1⟩

end Go.Proofs.Ytnjpdgahjbijcaa
