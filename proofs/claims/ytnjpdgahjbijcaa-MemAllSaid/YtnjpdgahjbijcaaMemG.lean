/-
  MEM: the document's All.
-/
import Derived.Test.YtnjpdgahjbijcaaMemE
import Derived.Test.YtnjpdgahjbijcaaMemF
import Derived.Test.YtnjpdgahjbijcaaGet
import Derived.Deep.RegionHeld3
import Derived.Deep.DeepCutAuto
import Derived.Deep.DeepMust
namespace Go.Proofs.Ytnjpdgahjbijcaa
open Go.ChangeShapes Go.WideShapes Go.ChangeAt Go.RowKit

theorem do_pos {wr wx w3 : World} {qx q3 : Option Addr} {n : Nat} {ys : List Int} (hql : 0 < n → ∀ b off, qx = some ⟨b, off, none⟩ → b < wr.heap.size) (hy : ys.length = n) (hs : q3 = qx ∨ FreshAt wx.heap.size w3 q3) :
    0 < ys.length → ∀ b off, q3 = some ⟨b, off, none⟩ → b < wr.heap.size ∨ (wx.heap.size ≤ b ∧ b < w3.heap.size) := by
  intro h0 b off e
  rcases hs with h | ⟨g, cur, h1, h2, h3⟩
  · exact .inl (hql (by omega) b off (by rw [← h]; exact e))
  · rw [h1] at e; injection e with e; injection e with e1 _; subst e1
    exact .inr ⟨h2, (Array.getElem?_eq_some_iff.1 h3).1⟩

theorem FreshAt.alloc {n : Nat} {w : World} {p : Option Addr} (h : FreshAt n w p) (o : Obj) : FreshAt n (w.alloc o) p := by
  obtain ⟨g, cur, h1, h2, h3⟩ := h
  exact ⟨g, cur, h1, h2, (Below.heap_alloc w o g (Array.getElem?_eq_some_iff.1 h3).1).trans h3⟩
theorem FreshAt.far {n : Nat} {w : World} {p : Option Addr} (h : FreshAt n w p) (a : Addr) (v : Value) (hne : ∀ g, p = some ⟨g, 0, none⟩ → g ≠ a.block) : FreshAt n (w.setCell a v) p := by
  obtain ⟨g, cur, h1, h2, h3⟩ := h
  exact ⟨g, cur, h1, h2, (Below.heap_setCell w a v g (hne g h1)).trans h3⟩
theorem FreshAt.le {n m : Nat} {w : World} {p : Option Addr} (h : FreshAt m w p) (hn : n ≤ m) : FreshAt n w p := by
  obtain ⟨g, cur, h1, h2, h3⟩ := h
  exact ⟨g, cur, h1, Nat.le_trans hn h2, h3⟩
theorem FreshAt.later {n : Nat} {w w1 : World} {p : Option Addr} (h : FreshAt n w p) (hb : Below w.heap.size w w1) : FreshAt n w1 p := by
  obtain ⟨g, cur, h1, h2, h3⟩ := h
  exact ⟨g, cur, h1, h2, (hb.block g (Array.getElem?_eq_some_iff.1 h3).1).trans h3⟩

/-- where the cells that came out of a round may lie -/
theorem do_pos2 {wr wx w3 : World} {qx q3 : Option Addr} (hw : wr.heap.size ≤ wx.heap.size) (hs : q3 = qx ∨ FreshAt wx.heap.size w3 q3) :
    q3 = qx ∨ (FreshAt wr.heap.size w3 q3 ∧ ∀ g, q3 = some ⟨g, 0, none⟩ → wx.heap.size ≤ g ∧ g < w3.heap.size) := by
  rcases hs with h | h
  · exact .inl h
  · refine .inr ⟨h.le hw, fun g e => ?_⟩
    obtain ⟨g', cur, h1, h2, h3⟩ := h
    rw [h1] at e; injection e with e; injection e with e1 _; subst e1
    exact ⟨h2, (Array.getElem?_eq_some_iff.1 h3).1⟩

/-- what a round's statement leaves -/
def RMeet (wr : World) (qx : Option Addr) (len : Nat) (ys : List Int) (had err : Int) (ok : Bool) (n r e : Value) (wx : World) : Prop :=
  ∃ b10 b11 q3 c3, n = .pointer (some ⟨b10, 0, none⟩) ∧ r = .pointer (some ⟨b11, 0, none⟩) ∧ e = .int .i64 err ∧ wx.cell? ⟨b10, 0, none⟩ = some (.slice q3 len c3) ∧ wx.cell? ⟨b11, 0, none⟩ = some (.int .i64 had) ∧ wx.cell? ⟨b11, 1, none⟩ = some (.bool ok) ∧
    Ints wx q3 ys ∧ Below wr.heap.size wr wx ∧ wr.heap.size ≤ b11 ∧ b11 < wx.heap.size ∧ (q3 = qx ∨ FreshAt wr.heap.size wx q3)

/-- what stands at the head of each round -/
structure RAllInv (w : World) (p : Option Addr) (cap : Nat) (xs : List Int) (l : List Acc) (wr : World) (k : Nat) (t : Value) : Prop where
  m0 : Blk wr w.heap.size 24 #[Value.slice p xs.length cap]
  m1 : Blk wr (w.heap.size + 1) 24 #[Value.slice none 0 0]
  x : ∃ q cq, Blk wr (w.heap.size + 1 + 1) 24 #[Value.slice q xs.length cq] ∧ Ints wr q (madeTo xs l k) ∧ (q = p ∨ FreshAt w.heap.size wr q)
  told : wr.ownsRow (w.heap.size + 3) 29 2 t k (resCells (toldTo xs l k))
  bel : Below w.heap.size w wr
  ok : whyTo xs.length l k = 0

theorem Ints.ne_box' {w : World} {p : Option Addr} {xs : List Int} {b : Nat} {t : TypeId} {v : Value} (h : Ints w p xs) (hb : Blk w b t #[v]) (hv : ∀ n, v ≠ .int .i64 n) : 0 < xs.length → ∀ b' off, p = some ⟨b', off, none⟩ → b' ≠ b := by
  intro h0 b' off e hbb
  obtain ⟨b2, o2, e2, _, h3⟩ := h.cells 0 h0
  rw [e] at e2
  injection e2 with e2
  injection e2 with e2 e3
  subst e2 e3 hbb
  rw [hb.cell] at h3
  cases off with
  | zero => simp at h3; exact hv _ h3
  | succ o => simp at h3

set_option maxHeartbeats 8000000 in
theorem rall_any (p q : Option Addr) (xs : List Int) (cap cap2 : Nat) (l : List Acc) (w : World) (hx : Ints w p xs) (hl : xs.length ≤ 1000000) (ha : Accs w q l) (hal : l.length ≤ 1000000) :
    Calls Try.prog 18 #[.agg #[.slice p xs.length cap], .slice q l.length cap2] w (AllPost w xs l) := by
  obtain ⟨i0, hi0, hz0, hz1, hz2⟩ := info_parts res_info
  have HX := Lib.hid hx
  have HA := Lib.hid ha
  clear hx ha
  go_enter Try.func18, Try.ntmps18
  go_wp2_with fail
  obtain ⟨W, hW⟩ : ∃ W, W = ((w.alloc (Obj.cells #[Value.slice p xs.length cap] 24)).alloc (Obj.cells #[Value.slice none 0 0] 24)).alloc (Obj.cells #[Value.slice p xs.length cap] 24) := ⟨_, rfl⟩
  have hbW : Below w.heap.size w W := by rw [hW]; exact (((Below.refl _ _).alloc (Nat.le_refl _) _).alloc (by simp [go_sem]) _).alloc (by simp [go_sem]; omega) _
  have B0 : Blk W w.heap.size 24 #[Value.slice p xs.length cap] := by rw [hW]; exact ((Blk.made _ _ _).alloc _).alloc _
  have B1 : Blk W (w.heap.size + 1) 24 #[Value.slice none 0 0] := by rw [hW]; have := (Blk.made (w.alloc (Obj.cells #[Value.slice p xs.length cap] 24)) 24 #[Value.slice none 0 0]).alloc (Obj.cells #[Value.slice p xs.length cap] 24); simpa [go_sem] using this
  have B2 : Blk W (w.heap.size + 1 + 1) 24 #[Value.slice p xs.length cap] := by rw [hW]; have := Blk.made ((w.alloc (Obj.cells #[Value.slice p xs.length cap] 24)).alloc (Obj.cells #[Value.slice none 0 0] 24)) 24 #[Value.slice p xs.length cap]; simpa [go_sem] using this
  have I0 : RAllInv w p cap xs l W 0 (.slice none 0 0) := ⟨B0, B1, ⟨p, cap, B2, HX.out.later hbW, .inl rfl⟩, World.ownsRow_nil _ _ _ _, hbW, rfl⟩
  rw [← hW]
  clear hW hbW B0 B1 B2
  go_loopw [8, 9] (fun t i wr => ∃ k : Nat, k ≤ l.length ∧ i = .int .i64 k ∧ RAllInv w p cap xs l wr k t) (fun _ i _ => l.length - (intOf i).toNat)
  case atStart => exact ⟨0, Nat.zero_le _, rfl, I0⟩
  case round =>
    obtain ⟨k, hk, rfl, I⟩ := hrel
    clear I0
    by_cases hlt : k < l.length
    · obtain ⟨b, off, hq, hbq, c0, c1, c2, c3⟩ := (HA.out.later I.bel).at_ k hlt
      have hr := HA.out.rng _ (List.getElem_mem hlt)
      obtain ⟨a, hae⟩ : ∃ a, l[k] = a := ⟨_, rfl⟩
      have hak : l[k]? = some a := by rw [List.getElem?_eq_getElem hlt, hae]
      rw [hae] at c0 c1 c2 c3 hr
      subst hq
      have HAK := Lib.hid hak
      clear hae hak
      obtain ⟨qx, cqx, X1, X2, X3⟩ := I.x
      have HX3 := Lib.hid X3
      clear X3
      have e2 : wr.cell? ⟨w.heap.size + 1 + 1, 0, none⟩ = some (.slice qx xs.length cqx) := X1.cell 0
      have hml : (madeTo xs l k).length = xs.length := madeTo_length xs l k
      have hWH : whyAt xs.length l k = whyF xs.length a.k a.c a.o a.n := by unfold whyAt; rw [HAK.out]
      have hWK : whyTo xs.length l (k + 1) = whyF xs.length a.k a.c a.o a.n := by simp only [whyTo]; rw [if_pos I.ok, hWH]
      have hMK : madeTo xs l (k + 1) = madeF (madeTo xs l k) a.k a.c a.o a.n := by simp only [madeTo]; rw [HAK.out]
      have hTK : toldAt xs l k = ((madeTo xs l k).getD a.c.toNat 0, wentF (madeTo xs l k) a.k a.c a.o) := by unfold toldAt; rw [HAK.out]
      have hdl : (doF (madeTo xs l k) a.k a.c a.o a.n).length = xs.length := by
        unfold doF; split
        · rw [madeF_length, hml]
        · exact hml
      have hdo : whyF xs.length a.k a.c a.o a.n = 0 → doF (madeTo xs l k) a.k a.c a.o a.n = madeTo xs l (k + 1) ∧ toldF (madeTo xs l k) a.k a.c a.o a.n = toldAt xs l k := fun h => by
        unfold doF toldF
        rw [hml, if_pos h, if_pos h, hMK, hTK]; exact ⟨rfl, rfl⟩
      have hD : ∀ wx, Ints wx qx (madeTo xs l k) → Calls Try.prog 12 #[.agg #[.slice qx xs.length cqx], .agg #[.int .i64 a.k, .int .i64 a.c, .int .i64 a.o, .int .i64 a.n]] wx
          (fun e w' => ∃ q cap, e = .returned (.tuple #[.agg #[.slice q xs.length cap], .agg #[.int .i64 (toldF (madeTo xs l k) a.k a.c a.o a.n).1, .bool (toldF (madeTo xs l k) a.k a.c a.o a.n).2], .int .i64 (whyF xs.length a.k a.c a.o a.n)]) ∧
            Ints w' q (doF (madeTo xs l k) a.k a.c a.o a.n) ∧ Below wx.heap.size wx w' ∧ (q = qx ∨ FreshAt wx.heap.size w' q)) := fun wx h => by
        have := rdo_any qx (madeTo xs l k) cqx a.k a.c a.o a.n wx h (by rw [hml]; exact hl) hr
        unfold RDoPost at this
        rw [hdl, hml] at this; exact this
      have hql : 0 < xs.length → ∀ b off, qx = some ⟨b, off, none⟩ → b < wr.heap.size := fun h0 b off e => X2.old (by rw [hml]; exact h0) b off e
      generalize doF (madeTo xs l k) a.k a.c a.o a.n = ys at *
      generalize toldF (madeTo xs l k) a.k a.c a.o a.n = tl at *
      obtain ⟨had, ok⟩ := tl
      generalize whyF xs.length a.k a.c a.o a.n = err at *
      simp only at hD
      have HD := Lib.hid hD
      have HX2 := Lib.hid X2
      have HDO := Lib.hid hdo
      have HDL := Lib.hid hdl
      have HQL := Lib.hid hql
      have HWK := Lib.hid hWK
      have HI := Lib.hid I
      have hx1 := X1.lt
      clear hD X2 hdo hdl hql hWK hWH hMK hTK hml
      have hS : ∀ w', Below wr.heap.size wr w' → w'.cell? ⟨w.heap.size + 1 + 1, 0, none⟩ = some (.slice qx xs.length cqx) ∧ w'.cell? ⟨b, off + k * 4, none⟩ = some (.int .i64 a.k) ∧ w'.cell? ⟨b, off + k * 4 + 1, none⟩ = some (.int .i64 a.c) ∧ w'.cell? ⟨b, off + k * 4 + 2, none⟩ = some (.int .i64 a.o) ∧ w'.cell? ⟨b, off + k * 4 + 3, none⟩ = some (.int .i64 a.n) ∧ Below wr.heap.size wr w' := by
        intro w' hb
        have hc : ∀ j, w'.cell? ⟨b, j, none⟩ = wr.cell? ⟨b, j, none⟩ := fun j => hb.cell (p := ⟨b, j, none⟩) hbq
        exact ⟨by rw [hb.cell (p := ⟨w.heap.size + 1 + 1, 0, none⟩) hx1]; exact e2, by rw [hc]; exact c0, by rw [hc]; exact c1, by rw [hc]; exact c2, by rw [hc]; exact c3, hb⟩
      have HS := Lib.hid hS
      clear hS I
      go_wp2_with fail
      go_upto_region 6 with (fail)
      go_cut [10, 11, 12] (fun n r e wx => RMeet wr qx xs.length ys had err ok n r e wx)
      case first =>
        go_region_held3 (fun w' => w'.cell? ⟨w.heap.size + 1 + 1, 0, none⟩ = some (.slice qx xs.length cqx) ∧ w'.cell? ⟨b, off + k * 4, none⟩ = some (.int .i64 a.k) ∧ w'.cell? ⟨b, off + k * 4 + 1, none⟩ = some (.int .i64 a.c) ∧ w'.cell? ⟨b, off + k * 4 + 2, none⟩ = some (.int .i64 a.o) ∧ w'.cell? ⟨b, off + k * 4 + 3, none⟩ = some (.int .i64 a.n) ∧ Below wr.heap.size wr w')
          (first
            | exact HS.out _ (by repeat (first | exact Below.refl _ _ | assumption | refine bel_drew ?_ | refine bel_alloc ?_ _ | refine bel_set ?_ _ _ _ (by first | exact Nat.le_refl _ | (simp; done) | (simp; omega)))))
          (first
            | (go_at_call 12
               refine (HD.out _ ?_).mono ?_
               · refine HX2.out.later ?_
                 repeat (first | exact Below.refl _ _ | assumption | refine bel_drew ?_ | refine bel_alloc ?_ _ | refine bel_set ?_ _ _ _ (by first | exact Nat.le_refl _ | (simp; done) | (simp; omega)))
               rintro e w3 ⟨q3, c3', rfl, hi3, hb3, hs3⟩
               obtain ⟨bc3, bf3⟩ := bcell hb3
               have hsz3 := hb3.size
               have hwr3 := below_of wr hb3 (by repeat (first | exact Below.refl _ _ | assumption | refine bel_drew ?_ | refine bel_alloc ?_ _ | refine bel_set ?_ _ _ _ (by first | exact Nat.le_refl _ | (simp; done) | (simp; omega))))
               have hp3 := do_pos HQL.out HDL.out hs3
               have hq3 := do_pos2 (wr := wr) (by first | exact Nat.le_refl _ | (simp [go_sem]; done) | (simp [go_sem]; omega)) hs3
               simp [go_sem] at hq3
               have HQ3 := Lib.hid hq3
               simp [go_sem] at hp3
               have HP3 := Lib.hid hp3
               have HI3 := Lib.hid hi3
               try (have hz4 : wr.heap.size < w3.heap.size := (by simp [go_sem] at hsz3; omega))
               try (have hz5 : wr.heap.size + 1 < w3.heap.size := (by simp [go_sem] at hsz3; omega))
               clear hsz3 hi3 hs3 hp3 hq3))
        all_goals (go_wp2_with fail; go_meet)
        all_goals (
          have hs3 := hwr3.size
          have hpp := HP3.out
          clear hi0 hz0 hz1 hz2 HDO HDL HQL HWK HI HX HA HAK HD HX2 HS c0 c1 c2 c3 e2 bf3
          refine ⟨_, _, q3, c3', rfl, rfl, rfl, ?_, ?_, ?_, ?_, ?_, ?_, ?_, ?_⟩
          · first | (simp [go_sem]; done) | (repeat (first | (simp [go_sem]; done) | refine get_same ?_ | refine get_alloc ?_ | refine get_far ?_ (by simp; done) | refine Has.set ?_ _ _ | (unfold Has; rw [bc3 _ _ (by simp [go_sem])]; simp [go_sem]; done)))
          · first | (simp [go_sem]; done) | (repeat (first | (simp [go_sem]; done) | refine get_same ?_ | refine get_alloc ?_ | refine get_far ?_ (by simp; done) | refine Has.set ?_ _ _ | (unfold Has; rw [bc3 _ _ (by simp [go_sem])]; simp [go_sem]; done)))
          · first | (simp [go_sem]; done) | (repeat (first | (simp [go_sem]; done) | refine get_same ?_ | refine get_alloc ?_ | refine get_far ?_ (by simp; done) | refine Has.set ?_ _ _ | (unfold Has; rw [bc3 _ _ (by simp [go_sem])]; simp [go_sem]; done)))
          · repeat (first | exact HI3.out | refine Ints.later ?_ (bel_alloc (Below.refl _ _) _) | refine Ints.far ?_ _ _ (fun h0 b' o' e => by have hh := hpp h0 b' o' e; dsimp only; omega))
          · repeat (first | exact Below.refl _ _ | assumption | refine bel_drew ?_ | refine bel_alloc ?_ _ | refine bel_set ?_ _ _ _ (by first | exact Nat.le_refl _ | (simp; done) | (simp; omega)))
          · omega
          · first | (simp [go_sem]; done) | (simp [go_sem]; omega)
          · rcases HQ3.out with hqq | ⟨hqq, hgg⟩
            · exact .inl hqq
            · refine .inr ?_
              repeat (first | exact hqq | refine FreshAt.alloc ?_ _ | refine FreshAt.far ?_ _ _ (fun g e => by have hh := hgg g e; dsimp only; omega)))
      case rest =>
        obtain ⟨b10, b11, q3, c3', rfl, rfl, rfl, n0, r0, r1, hi3, hb3, hb11, hl11, hq3⟩ := hcut
        have J := HI.out
        have H0 := J.m0.later hb3
        have H1 := J.m1.later hb3
        have HXB := X1.later hb3
        have T3 : wc.ownsRow (w.heap.size + 3) 29 2 u8 k (resCells (toldTo xs l k)) := J.told.kept (gb_below hb3 none) (by cases h : u8.ownBlock <;> simp)
        have bel3 : Below w.heap.size w wc := J.bel.trans (hb3.mono J.bel.size)
        have s0 := H0.lt
        have s1 := H1.lt
        have s2 := HXB.lt
        have hws : w.heap.size + 1 + 1 < wr.heap.size := hx1
        have hne11 : b11 ≠ w.heap.size + 1 + 1 := by omega
        have hne11' : w.heap.size + 1 + 1 ≠ b11 := by omega
        clear c0 c1 c2 c3 e2 J
        by_cases he : err = 0
        · subst he
          obtain ⟨hys, htl⟩ := HDO.out rfl
          have f2 := HXB.free 0
          have k2 : wc.cell? ⟨w.heap.size + 1 + 1, 0, none⟩ = some (.slice qx xs.length cqx) := HXB.cell 0
          have HH0 := Lib.hid H0
          have HH1 := Lib.hid H1
          have HHX := Lib.hid HXB
          have HT3 := Lib.hid T3
          have HI3 := Lib.hid hi3
          have HTL := Lib.hid htl
          have HYS := Lib.hid hys
          have hfr : q3 = p ∨ FreshAt w.heap.size wc q3 := by
            rcases hq3 with h | h
            · rcases HX3.out with h2 | h2
              · exact .inl (h.trans h2)
              · exact .inr (by rw [h]; exact h2.later hb3)
            · exact .inr (h.le HI.out.bel.size)
          have HFR := Lib.hid hfr
          clear H0 H1 HXB T3 hi3 htl hys hfr hq3
          obtain ⟨W5, hW5⟩ : ∃ W5, W5 = wc.setCell ⟨w.heap.size + 1 + 1, 0, none⟩ (.slice q3 xs.length c3') := ⟨_, rfl⟩
          have g5 : wc.grownBy W5 (some (w.heap.size + 1 + 1)) := by rw [hW5]; exact grownBy_setCell' _ _ _
          have hub : ∀ i, u8.ownBlock = some i → w.heap.size + 3 ≤ i := fun i hi => (HT3.out.lt i hi).1
          have T5 : W5.ownsRow (w.heap.size + 3) 29 2 u8 k (resCells (toldTo xs l k)) := HT3.out.kept g5 (.inr (fun h => by have := hub _ h; omega))
          have T6 := T5.alloc (Obj.cells #[Value.int .i64 had, .bool ok] 29)
          have HT6 := Lib.hid T6
          have HW5 := Lib.hid hW5
          have s5 : W5.heap.size = wc.heap.size := by rw [hW5]; simp
          clear T5 T6 hW5
          go_wp2_with (at_builtin; rw [← HW5.out]; refine wpList_append_own _ rfl (.tmp 35) (.tmp 37) _ rfl (w.heap.size + 3) 29 i0 _ 2 16 Try.underlying37 hi0 hz0 hz1 hz2 rfl (by omega) u8 k (resCells (toldTo xs l k)) rfl HT6.out ⟨W5.heap.size, 0, none⟩ 1 1 [.int .i64 had, .bool ok] (by simp [go_sem, s5]) rfl (cell_two_new _ _ _ _) (by simp [Value.oneCell']) (by unfold maxLen; omega) (by omega) (by simp [go_sem]; omega) ?_; intro v6 w6 T6 G6 _)
          have G46 : W5.grownBy w6 u8.ownBlock := gb_trans (World.grownBy_alloc _ _ _) G6
          have hfr5 : q3 = p ∨ FreshAt w.heap.size W5 q3 := by
            rcases HFR.out with h | h
            · exact .inl h
            · refine .inr ?_
              rw [HW5.out]
              obtain ⟨g, cur, h1, h2, h3⟩ := h
              refine ⟨g, cur, h1, h2, (Below.heap_setCell _ _ _ _ ?_).trans h3⟩
              intro hg
              have hg : g = w.heap.size + 1 + 1 := hg
              subst hg
              have := HHX.out
              unfold Blk at this
              rw [h3] at this
              injection this with this
              injection this with _ h5 _
              exact absurd h5 (by decide)
          have hB5 : Blk W5 (w.heap.size + 1 + 1) 24 #[Value.slice q3 xs.length c3'] := by rw [HW5.out]; exact HHX.out.put 0 _
          have hI5 : Ints W5 q3 ys := by rw [HW5.out]; exact HI3.out.far _ _ (HI3.out.ne_box' HHX.out (by simp))
          have hnt : 0 < ys.length → ∀ b off, q3 = some ⟨b, off, none⟩ → some b ≠ u8.ownBlock := by
            intro h0 b' off' e hb'
            rcases hfr5 with h | ⟨g, cur, h1, h2, h3⟩
            · have h4 := HX.out.old (by have := HDL.out; omega) b' off' (by rw [← h]; exact e)
              have := hub b' hb'.symm
              omega
            · rw [h1] at e; injection e with e; injection e with e1 _; subst e1
              rcases HT3.out.2 with ⟨hv, _⟩ | ⟨g', cp', cur', hv, _, hg', _⟩
              · rw [hv] at hb'; cases hb'
              · rw [hv] at hb'
                injection hb' with hb'
                have hb'' : g = g' := hb'
                subst hb''
                have h6 := (g5.block g (Array.getElem?_eq_some_iff.1 hg').1 (by intro hh; injection hh with hh; have := (HT3.out.lt g (by rw [hv]; rfl)).1; omega)).trans hg'
                rw [h3] at h6
                injection h6 with h6
                injection h6 with _ h7 _
                exact absurd h7 (by decide)
          go_roundw
          case rel =>
            refine ⟨k + 1, by omega, by go_num, ⟨(HH0.out.beside g5 (by simp; omega)).beside G46 ?_, (HH1.out.beside g5 (by simp)).beside G46 ?_, ⟨q3, c3', hB5.beside G46 ?_, ?_, ?_⟩, ?_, ?_, by rw [HWK.out]⟩⟩
            · intro h; have := hub _ h.symm; omega
            · intro h; have := hub _ h.symm; omega
            · intro h; have := hub _ h.symm; omega
            · rw [← HYS.out]
              refine ⟨fun i hi => ?_, hI5.rng⟩
              obtain ⟨b', off', e1, e2, e3⟩ := hI5.cells i hi
              exact ⟨b', off', e1, Nat.lt_of_lt_of_le e2 G46.size, by rw [World.cell?_of_block (G46.block b' e2 (hnt (by omega) b' off' e1))]; exact e3⟩
            · rcases hfr5 with h | ⟨g, cur, h1, h2, h3⟩
              · exact .inl h
              · by_cases hgu : some g = u8.ownBlock
                · by_cases h0 : 0 < ys.length
                  · exact absurd hgu (hnt h0 g 0 h1)
                  · exfalso
                    rcases HT3.out.2 with ⟨hv, _⟩ | ⟨g', cp', cur', hv, _, hg', _⟩
                    · rw [hv] at hgu; cases hgu
                    · rw [hv] at hgu
                      injection hgu with hb'
                      have hb'' : g = g' := hb'
                      subst hb''
                      have h6 := (g5.block g (Array.getElem?_eq_some_iff.1 hg').1 (by intro hh; injection hh with hh; have := (HT3.out.lt g (by rw [hv]; rfl)).1; omega)).trans hg'
                      rw [h3] at h6
                      injection h6 with h6
                      injection h6 with _ h7 _
                      exact absurd h7 (by decide)
                · exact .inr ⟨g, cur, h1, h2, (G46.block g (Array.getElem?_eq_some_iff.1 h3).1 hgu).trans h3⟩
            · have e : resCells (toldTo xs l (k + 1)) = resCells (toldTo xs l k) ++ [.int .i64 had, .bool ok] := by
                unfold toldTo; rw [List.range_succ, List.map_append, List.map_singleton, resCells_snoc, ← HTL.out]
              rw [e]; exact T6
            · exact ((bel3.grown g5 bel3.size (by intro i hi; injection hi with hi; omega)).grown G46 (by rw [s5]; exact bel3.size) (fun i hi => by have := hub i hi; omega))
          case measure => simp [intOf]; omega
        · have k0 : wc.cell? ⟨w.heap.size, 0, none⟩ = some (.slice p xs.length cap) := H0.cell 0
          have k1 : wc.cell? ⟨w.heap.size + 1, 0, none⟩ = some (.slice none 0 0) := H1.cell 0
          have f1 := H1.free 0
          have h2 : (err == 0) = false := by simpa using he
          have h3 : (err != 0) = true := by simpa using he
          have HE := Lib.hid he
          clear he
          go_wp2_with fail
          refine bodyPost_ret (v := .tuple #[.agg #[.slice p xs.length cap], .slice none 0 0, .int .i64 err]) (by simp [results, Try.results18, go_sem, k1, f1]) rfl ?_
          have hst : whyTo xs.length l l.length = err := by rw [← HWK.out]; exact whyTo_stays _ _ _ _ (by rw [HWK.out]; exact HE.out) (by omega)
          have hbe : Below w.heap.size w (wc.setCell ⟨w.heap.size + 1, 0, none⟩ (.slice p xs.length cap)) := bel3.setCell (by simp) _
          refine ⟨p, cap, none, 0, 0, by rw [hst], hbe, ?_⟩
          rw [if_neg (by rw [hst]; exact HE.out)]
          exact ⟨HX.out.later hbe, rfl, rfl, rfl⟩
    · obtain rfl : k = l.length := by omega
      obtain ⟨qx, cqx, X1, X2, -⟩ := I.x
      have k2 : wr.cell? ⟨w.heap.size + 1 + 1, 0, none⟩ = some (.slice qx xs.length cqx) := X1.cell 0
      have k1 : wr.cell? ⟨w.heap.size + 1, 0, none⟩ = some (.slice none 0 0) := I.m1.cell 0
      have f1 := I.m1.free 0
      have l1 := I.m1.lt
      have HX2 := Lib.hid X2
      have HI := Lib.hid I
      have HM1 := Lib.hid I.m1
      clear X2 I
      go_wp2_with fail
      refine bodyPost_ret (v := .tuple #[.agg #[.slice qx xs.length cqx], u8, .int .i64 0]) (by simp [results, Try.results18, go_sem, k1, f1]) rfl ?_
      have hq : ∃ q cap2, u8 = .slice q l.length cap2 ∧ Cells wr q (resCells (toldTo xs l l.length)) ∧ ∀ b off, q = some ⟨b, off, none⟩ → w.heap.size + 3 ≤ b := by
        have hT := HI.out.told
        rcases hT.2 with ⟨hv, h0⟩ | ⟨g', cp, cur, hv, hb', hg', _⟩
        · refine ⟨none, 0, by rw [hv, h0], ⟨fun i hi => ?_⟩, fun b off h => by cases h⟩
          rw [hT.1, h0] at hi; omega
        · refine ⟨_, cp, hv, ?_, fun b off h => by injection h with h; injection h with h; omega⟩
          rw [hv] at hT
          exact Cells.of_own hT
      obtain ⟨q, cp2, rfl, hcells, hqb⟩ := hq
      refine ⟨qx, cqx, q, l.length, cp2, by rw [HI.out.ok], HI.out.bel.setCell (by simp) _, ?_⟩
      rw [if_pos HI.out.ok]
      have hfar : wr.grownBy (wr.setCell ⟨w.heap.size + 1, 0, none⟩ (.slice qx xs.length cqx)) (some (w.heap.size + 1)) := grownBy_setCell' _ _ _
      refine ⟨HX2.out.far _ _ (HX2.out.ne_box' HM1.out (by simp)), rfl, ⟨fun i hi => ?_⟩⟩
      obtain ⟨b, off, h1, h2, h3⟩ := hcells.at_ i hi
      have := hqb b off h1
      exact ⟨b, off, h1, Nat.lt_of_lt_of_le h2 hfar.size, hfar.cell h3 (by simp; omega)⟩

end Go.Proofs.Ytnjpdgahjbijcaa
