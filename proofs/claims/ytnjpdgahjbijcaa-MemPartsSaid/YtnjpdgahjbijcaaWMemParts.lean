/-
  MEM: the walk of the law MemParts.
-/
import Derived.Test.YtnjpdgahjbijcaaMemE
import Derived.Test.YtnjpdgahjbijcaaMemH
import Derived.Test.YtnjpdgahjbijcaaMemT
import Derived.Test.YtnjpdgahjbijcaaGet
import Derived.Deep.RegionHeld3
import Derived.Deep.DeepCutAuto
import Derived.Deep.DeepMust
namespace Go.Proofs.Ytnjpdgahjbijcaa
open Go.ChangeShapes Go.WideShapes Go.ChangeAt Go.RowKit

/-- accesses done one behind the other, put into a box: what is left -/
def BoxPost (w : World) (xs : List Int) (l : List Acc) (a s f : Value) (wx : World) : Prop :=
  ∃ b p cap q n c2, a = .pointer (some ⟨b, 0, none⟩) ∧ s = .slice q n c2 ∧ f = .int .i64 (whyTo xs.length l l.length) ∧ wx.cell? ⟨b, 0, none⟩ = some (.slice p xs.length cap) ∧ b < wx.heap.size ∧ w.heap.size ≤ b ∧ Below w.heap.size w wx ∧ (q = none → c2 = 0) ∧
    (whyTo xs.length l l.length = 0 → Ints wx p (madeTo xs l l.length) ∧ n = l.length ∧ Cells wx q (resCells (toldTo xs l l.length)))

theorem Ints.ne_box {w : World} {p : Option Addr} {xs : List Int} {b : Nat} {t : TypeId} {v : Value} (h : Ints w p xs) (hb : Blk w b t #[v]) (hv : ∀ n, v ≠ .int .i64 n) : 0 < xs.length → ∀ b' off, p = some ⟨b', off, none⟩ → b' ≠ b := by
  intro h0 b' off e hbb
  obtain ⟨b2, o2, e2, _, h3⟩ := h.cells 0 h0
  rw [e] at e2
  injection e2 with e2
  injection e2 with e2 e3
  subst e2 e3 hbb
  rw [hb.cell] at h3
  cases off with
  | zero => simp at h3; exact hv _ h3
  | succ o => simp at h3
theorem Cells.ne_box {w : World} {p : Option Addr} {cs : List Value} {b : Nat} {t : TypeId} {v : Value} (h : Cells w p cs) (hb : Blk w b t #[v]) (hv : v ∉ cs) : 0 < cs.length → ∀ b' off, p = some ⟨b', off, none⟩ → b' ≠ b := by
  intro h0 b' off e hbb
  obtain ⟨b2, o2, e2, _, h3⟩ := h.at_ 0 h0
  rw [e] at e2
  injection e2 with e2
  injection e2 with e2 e3
  subst e2 e3 hbb
  rw [hb.cell] at h3
  cases off with
  | zero => simp at h3; exact hv (by rw [h3]; exact List.getElem_mem _)
  | succ o => simp at h3
theorem Cells.far {w : World} {p : Option Addr} {cs : List Value} (h : Cells w p cs) (a : Addr) (v : Value) (hne : 0 < cs.length → ∀ b off, p = some ⟨b, off, none⟩ → b ≠ a.block) : Cells (w.setCell a v) p cs :=
  ⟨fun i hi => by
    obtain ⟨b, off, h1, h2, h3⟩ := h.at_ i hi
    refine ⟨b, off, h1, by simpa using h2, ?_⟩
    rw [World.cell?_of_block (w := w) (a := ⟨b, off + i, none⟩) (Below.heap_setCell w a v b (hne (by omega) b off h1))]
    exact h3⟩
theorem slice_not_res {p : Option Addr} {n c : Nat} (rs : List (Int × Bool)) : Value.slice p n c ∉ resCells rs := by
  unfold resCells
  intro h
  obtain ⟨r, _, h⟩ := List.mem_flatMap.1 h
  simp at h

/-- the box was made behind the call -/
theorem BoxPost.behind {w w1 : World} {xs : List Int} {l : List Acc} (hb0 : Below w.heap.size w w1) {p : Option Addr} {cap : Nat} {q : Option Addr} {n c2 : Nat} (hqn : q = none → c2 = 0)
    (hif : if whyTo xs.length l l.length = 0 then Ints w1 p (madeTo xs l l.length) ∧ n = l.length ∧ Cells w1 q (resCells (toldTo xs l l.length)) else Ints w1 p xs ∧ q = none ∧ n = 0 ∧ c2 = 0) :
    BoxPost w xs l (.pointer (some ⟨w1.heap.size, 0, none⟩)) (.slice q n c2) (.int .i64 (whyTo xs.length l l.length)) (w1.alloc (Obj.cells #[Value.slice p xs.length cap] 24)) := by
  have ba := bel_alloc (Below.refl w1.heap.size w1) (Obj.cells #[Value.slice p xs.length cap] 24)
  refine ⟨w1.heap.size, p, cap, q, n, c2, rfl, rfl, rfl, by simp [go_sem], by simp [go_sem], hb0.size, hb0.trans (ba.mono hb0.size), hqn, fun h => ?_⟩
  rw [if_pos h] at hif
  exact ⟨hif.1.later ba, hif.2.1, hif.2.2.later ba⟩
/-- the box was made ahead of the call -/
theorem BoxPost.ahead {w wb w1 : World} {xs : List Int} {l : List Acc} {b : Nat} (hB : Blk wb b 24 #[Value.slice none 0 0]) (hb : Below wb.heap.size wb w1) (hw : Below w.heap.size w wb) (hbw : w.heap.size ≤ b) {p : Option Addr} {cap : Nat} {q : Option Addr} {n c2 : Nat} (hqn : q = none → c2 = 0)
    (hif : if whyTo xs.length l l.length = 0 then Ints w1 p (madeTo xs l l.length) ∧ n = l.length ∧ Cells w1 q (resCells (toldTo xs l l.length)) else Ints w1 p xs ∧ q = none ∧ n = 0 ∧ c2 = 0) :
    BoxPost w xs l (.pointer (some ⟨b, 0, none⟩)) (.slice q n c2) (.int .i64 (whyTo xs.length l l.length)) (w1.setCell ⟨b, 0, none⟩ (.slice p xs.length cap)) := by
  have hB1 := hB.later hb
  refine ⟨b, p, cap, q, n, c2, rfl, rfl, rfl, get_same ?_, by simpa using hB1.lt, hbw, (hw.trans (hb.mono hw.size)).setCell hbw _, hqn, fun h => ?_⟩
  · unfold Has; rw [hB1.cell]; rfl
  · rw [if_pos h] at hif
    exact ⟨hif.1.far _ _ (hif.1.ne_box hB1 (by simp)), hif.2.1, hif.2.2.far _ _ (hif.2.2.ne_box hB1 (slice_not_res _))⟩

set_option maxRecDepth 40000 in
set_option maxHeartbeats 1000000 in
theorem walkMemParts (a0 : Option Addr) (len0 cap0 : Nat) (z0 : List Int) (a1 : Option Addr) (cap1 : Nat) (l : List Acc) (c : Int) (w : World) (h0 : IsRow .i64 w a0 len0 cap0 z0)
    (h1 : Accs w a1 l) (hm1 : l.length ≤ maxLen) (hcap : l.length ≤ cap1) (hnil : a1 = none → cap1 = 0) (hc : 0 ≤ c ∧ c ≤ 255) :
    Calls Try.prog 7 #[.agg #[.slice a0 len0 cap0], .slice a1 l.length cap1, .int .u8 c] w fun e w' => e = .returned (.bool true) ∧ Below w.heap.size w w' := by
  obtain ⟨hx, hxl, hx2⟩ := Ints.of_row h0
  generalize z0.take len0 = xs at hx hxl
  subst hxl
  clear h0
  obtain ⟨W, hW⟩ : ∃ W, W = w.alloc (Obj.cells #[Value.slice a0 xs.length cap0] 24) := ⟨_, rfl⟩
  have hbW : Below w.heap.size w W := by rw [hW]; exact bel_alloc (Below.refl _ _) _
  have B0 : Blk W w.heap.size 24 #[Value.slice a0 xs.length cap0] := by rw [hW]; exact Blk.made _ _ _
  have HB0 := Lib.hid B0
  have HW := Lib.hid hW
  have HX := Lib.hid (hx.later hbW)
  have HA := Lib.hid (h1.later hbW)
  clear hx hW B0 h1
  by_cases hl : xs.length ≤ 60
  · have g1 : ¬ ((60 : Int) < xs.length) := by omega
    by_cases hl2 : l.length ≤ 30
    · have g2 : ¬ ((30 : Int) < l.length) := by omega
      obtain ⟨k, hk, hkl⟩ : ∃ k : Nat, c % ((l.length : Int) + 1) = (k : Int) ∧ k ≤ l.length := by
        refine ⟨(c % ((l.length : Int) + 1)).toNat, ?_, ?_⟩
        · have := Int.emod_nonneg c (b := (l.length : Int) + 1) (by omega)
          omega
        · have := Int.emod_lt_of_pos c (b := (l.length : Int) + 1) (by omega)
          omega
      have HK := Lib.hid hk
      clear hk
      go_enter Try.func7, Try.ntmps7
      go_wp2_with fail
      rw [← HW.out]
      refine (shown_any _).mono ?_
      rintro e w1 ⟨rfl, b1⟩
      have c1 : w1.cell? ⟨w.heap.size, 0, none⟩ = some (.slice a0 xs.length cap0) := (HB0.out.later b1).cell 0
      go_wp2_with fail
      refine (all_any2 a0 a1 xs cap0 cap1 l w1 (HX.out.later b1) (by omega) (HA.out.later b1) (by omega)).mono ?_
      rintro e w2 ⟨p2, cp2, q2, n2, cq2, rfl, b2, -, hif2⟩
      have HI2 := Lib.hid hif2
      have b12 := below_trans b1 b2
      have c2 : w2.cell? ⟨w.heap.size, 0, none⟩ = some (.slice a0 xs.length cap0) := (HB0.out.later b12).cell 0
      have s2 : w.heap.size < w2.heap.size := (HB0.out.later b12).lt
      clear c1 hif2
      generalize hE : whyTo xs.length l l.length = err at *
      have HE := Lib.hid hE
      clear hE
      go_wp2_with fail
      rw [HK.out]
      obtain ⟨W2, hW2⟩ : ∃ W2, W2 = w2.alloc (Obj.cells #[Value.slice p2 xs.length cp2] 24) := ⟨_, rfl⟩
      have bW2 : Below w2.heap.size w2 W2 := by rw [hW2]; exact bel_alloc (Below.refl _ _) _
      have BX : Blk W2 w2.heap.size 24 #[Value.slice p2 xs.length cp2] := by rw [hW2]; exact Blk.made _ _ _
      rw [← hW2]
      clear hW2 c2 s2
      have b02 := below_trans b12 bW2
      have cm : W2.cell? ⟨w.heap.size, 0, none⟩ = some (.slice a0 xs.length cap0) := (HB0.out.later b02).cell 0
      have lm : w.heap.size < W2.heap.size := (HB0.out.later b02).lt
      have HBX := Lib.hid BX
      clear BX
      have hS : ∀ w', Below W2.heap.size W2 w' → w'.cell? ⟨w.heap.size, 0, none⟩ = some (.slice a0 xs.length cap0) ∧ Below W2.heap.size W2 w' := fun w' h => ⟨by rw [h.cell (p := ⟨w.heap.size, 0, none⟩) lm]; exact cm, h⟩
      have HS := Lib.hid hS
      have htl : (l.take k).length = k := by simp; omega
      have hAll : ∀ wx, Below W2.heap.size W2 wx → Calls Try.prog 17 #[.agg #[.slice a0 xs.length cap0], .slice a1 k cap1] wx (AllPost2 wx xs (l.take k)) := fun wx h => by
        have := all_any2 a0 a1 xs cap0 cap1 (l.take k) wx (HX.out.later (below_trans b02 h)) (by omega) ((HA.out.later (below_trans b02 h)).take k) (by rw [htl]; omega)
        rw [htl] at this; exact this
      have HALL := Lib.hid hAll
      have HTL := Lib.hid htl
      have kc1 : (0 : Int) ≤ (k : Int) := by omega
      have kc2 : (k : Int) ≤ (cap1 : Int) := by omega
      have kc3 : k ≤ cap1 := by omega
      clear hS hAll htl
      go_cut [12, 13, 14] (fun y s f wx => BoxPost W2 xs (l.take k) y s f wx)
      case first =>
        go_region_held3 (fun w' => w'.cell? ⟨w.heap.size, 0, none⟩ = some (.slice a0 xs.length cap0) ∧ Below W2.heap.size W2 w')
          (first
            | exact HS.out _ (by repeat (first | exact Below.refl _ _ | assumption | refine bel_drew ?_ | refine bel_alloc ?_ _ | refine bel_set ?_ _ _ _ (by first | exact Nat.le_refl _ | (simp; done) | (simp; omega)))))
          (first
            | (go_at_call 17
               refine (HALL.out _ ?_).mono ?_
               · repeat (first | exact Below.refl _ _ | assumption | refine bel_drew ?_ | refine bel_alloc ?_ _)
               rintro e w3 ⟨p3, cp3, q3, n3, cq3, rfl, b3, hqn3, hif3⟩
               have b3w := below_of W2 b3 (by repeat (first | exact Below.refl _ _ | assumption | refine bel_drew ?_ | refine bel_alloc ?_ _))
               have HI3 := Lib.hid hif3
               have HQN3 := Lib.hid hqn3
               obtain ⟨bc3, bf3⟩ := bcell b3
               have hsz3 := b3.size
               try (have hz4 : W2.heap.size < w3.heap.size := (by simp [go_sem] at hsz3; omega))
               clear hif3 hqn3 hsz3))
        all_goals (go_wp2_with fail; go_meet)
        all_goals (rw [show (Value.int .i64 (whyTo xs.length (l.take k) k)) = .int .i64 (whyTo xs.length (l.take k) (l.take k).length) from by rw [HTL.out]])
        · exact BoxPost.behind b3w HQN3.out HI3.out
        · have hbk : Blk (W2.alloc (Obj.cells #[Value.slice none 0 0] 24)).drew W2.heap.size 24 #[Value.slice none 0 0] := Blk.made W2 _ _
          exact BoxPost.ahead hbk b3 (bel_drew (bel_alloc (Below.refl _ _) _)) (Nat.le_refl _) HQN3.out HI3.out
      case rest =>
        obtain ⟨wy, rfl⟩ : ∃ wy, wy = wc := ⟨_, rfl⟩
        obtain ⟨b12, p3, cp3, q3, n3, cq3, rfl, rfl, rfl, d12, lb, hb12, b3, hqn3, hif3⟩ := hcut
        rw [HTL.out, whyTo_take xs.length l k k (Nat.le_refl _), madeTo_take xs l k k (Nat.le_refl _), toldTo_take] at hif3
        rw [HTL.out, whyTo_take xs.length l k k (Nat.le_refl _)]
        have HI3 := Lib.hid hif3
        clear hif3
        have b03 := below_trans b02 b3
        have HBX3 := Lib.hid (HBX.out.later b3)
        by_cases he : whyTo xs.length l k = 0
        · have hmk : (madeTo xs l k).length = xs.length := madeTo_length xs l k
          have hadd := whyTo_add xs.length l k he (l.length - k)
          rw [show k + (l.length - k) = l.length from by omega, HE.out] at hadd
          have hdl : (l.drop k).length = l.length - k := by simp
          obtain ⟨hi3, hn3, hq3⟩ := HI3.out he
          replace hn3 := hn3.symm
          subst hn3
          rw [he]
          have hmd := madeTo_drop xs l k (l.length - k)
          have htd := toldTo_add xs l k (l.length - k)
          rw [show k + (l.length - k) = l.length from by omega] at hmd htd
          generalize hms : madeTo xs l k = ms at *
          have HMS := Lib.hid hms
          have HMK := Lib.hid hmk
          have HMD := Lib.hid hmd
          have HTD := Lib.hid htd
          have HDL := Lib.hid hdl
          have HAD := Lib.hid hadd
          have I3 := Lib.hid hi3
          have C3 := Lib.hid hq3
          have HQN3 := Lib.hid hqn3
          clear hms hmk hmd htd hdl hadd hi3 hq3 he HI3 HALL HS hqn3
          have hS : ∀ w', Below wy.heap.size wy w' → w'.cell? ⟨b12, 0, none⟩ = some (.slice p3 xs.length cp3) ∧ Below wy.heap.size wy w' := fun w' h => ⟨by rw [h.cell (p := ⟨b12, 0, none⟩) lb]; exact d12, h⟩
          have HS := Lib.hid hS
          have hdrest : ∀ wx ad, Accs wx (some ad) l → Accs wx (some (ad.add (k * 4))) (l.drop k) := fun wx ad h => h.rest k
          have hdnil : l.length ≤ k → l.drop k = [] := fun h => List.drop_eq_nil_of_le h
          generalize l.drop k = dl at *
          have hAll : ∀ wx q cq, Below wy.heap.size wy wx → Accs wx q dl → Calls Try.prog 17 #[.agg #[.slice p3 xs.length cp3], .slice q (l.length - k) cq] wx (AllPost2 wx ms dl) := fun wx q cq h hq => by
            have := all_any2 p3 q ms cp3 cq dl wx (I3.out.later h) (by rw [HMK.out]; omega) hq (by rw [HDL.out]; omega)
            rw [HDL.out, HMK.out] at this; exact this
          have hcase : ((k = cap1 ∧ l.length = cap1) ∧ RowKit.Hid (∀ wx, Below wy.heap.size wy wx → Calls Try.prog 17 #[.agg #[.slice p3 xs.length cp3], .slice a1 0 0] wx (AllPost2 wx ms dl))) ∨
              (¬ cap1 = k ∧ ∃ ad, a1 = some ad ∧ RowKit.Hid (∀ wx, Below wy.heap.size wy wx → Calls Try.prog 17 #[.agg #[.slice p3 xs.length cp3], .slice (some (ad.add (k * 4))) (l.length - k) (cap1 - k)] wx (AllPost2 wx ms dl))) := by
            by_cases h : cap1 = k
            · refine .inl ⟨⟨h.symm, by omega⟩, Lib.hid fun wx hb => ?_⟩
              have := hAll wx a1 0 hb (by
                rw [hdnil (by omega)]
                exact ⟨fun i hi => absurd hi (by simp), fun a ha => absurd ha (by simp)⟩)
              rw [show l.length - k = 0 from by omega] at this
              exact this
            · rcases a1 with _ | ad
              · have := hnil rfl; omega
              · exact .inr ⟨h, ad, rfl, Lib.hid fun wx hb => hAll wx _ _ hb (hdrest _ _ (HA.out.later (below_trans b03 hb)))⟩
          have HHM : RowKit.Hid (whyTo ms.length dl dl.length = err) := Lib.hid (by rw [HMK.out, HDL.out]; exact HAD.out)
          have HMM : RowKit.Hid (madeTo ms dl dl.length = madeTo xs l l.length) := Lib.hid (by rw [HDL.out]; exact HMD.out)
          have HTT : RowKit.Hid (toldTo xs l l.length = toldTo xs l k ++ toldTo ms dl dl.length) := Lib.hid (by rw [HDL.out]; exact HTD.out)
          have HKL := Lib.hid hkl
          have HT1 : RowKit.Hid ((toldTo xs l k).length = k) := Lib.hid (toldTo_len _ _ _)
          have HT5 : RowKit.Hid ((toldTo ms dl dl.length).length = dl.length) := Lib.hid (toldTo_len _ _ _)
          have HT0 : RowKit.Hid ((toldTo xs l l.length).length = l.length) := Lib.hid (toldTo_len _ _ _)
          have HMML : RowKit.Hid ((madeTo xs l l.length).length = xs.length) := Lib.hid (madeTo_length _ _ _)
          clear hS hAll hdrest hdnil HMD HTD HAD
          generalize toldTo xs l k = T1 at *
          rcases hcase with ⟨⟨rfl, rfl⟩, KK⟩ | ⟨hkc, ad, rfl, KK⟩
          all_goals (
            go_wp2_with fail
            go_cut [15, 16, 17] (fun y s f wx => BoxPost wy ms dl y s f wx)
            case first =>
              go_region_held3 (fun w' => w'.cell? ⟨b12, 0, none⟩ = some (.slice p3 xs.length cp3) ∧ Below wy.heap.size wy w')
                (first
                  | exact HS.out _ (by repeat (first | exact Below.refl _ _ | assumption | refine bel_drew ?_ | refine bel_alloc ?_ _ | refine bel_set ?_ _ _ _ (by first | exact Nat.le_refl _ | (simp; done) | (simp; omega)))))
                (first
                  | (go_at_call 17
                     refine (KK.out _ ?_).mono ?_
                     · repeat (first | exact Below.refl _ _ | assumption | refine bel_drew ?_ | refine bel_alloc ?_ _)
                     rintro e w5 ⟨p5, cp5, q5, n5, cq5, rfl, b5, hqn5, hif5⟩
                     have b5w := below_of wy b5 (by repeat (first | exact Below.refl _ _ | assumption | refine bel_drew ?_ | refine bel_alloc ?_ _))
                     have HI5 := Lib.hid hif5
                     have HQN5 := Lib.hid hqn5
                     obtain ⟨bc5, bf5⟩ := bcell b5
                     have hsz5 := b5.size
                     try (have hz5 : wy.heap.size < w5.heap.size := (by simp [go_sem] at hsz5; omega))
                     clear hif5 hqn5 hsz5))
              all_goals (go_wp2_with fail; go_meet)
              · exact BoxPost.behind b5w HQN5.out HI5.out
              · have hbk : Blk (wy.alloc (Obj.cells #[Value.slice none 0 0] 24)).drew wy.heap.size 24 #[Value.slice none 0 0] := Blk.made wy _ _
                exact BoxPost.ahead hbk b5 (bel_drew (bel_alloc (Below.refl _ _) _)) (Nat.le_refl _) HQN5.out HI5.out
            case rest =>
              obtain ⟨b15, p5, cp5, q5, n5, cq5, rfl, rfl, rfl, d15, lb15, hb15, b5, hqn5, hif5⟩ := hcut
              have HI5 := Lib.hid hif5
              have HQN5 := Lib.hid hqn5
              clear hif5 hqn5
              rw [HHM.out]
              by_cases he0 : err = 0
              · subst he0
                obtain ⟨hi5, hn5, hq5⟩ := HI5.out HHM.out
                have hi2 := HI2.out
                rw [if_pos rfl] at hi2
                obtain ⟨hi2, hn2, hq2⟩ := hi2
                subst hn5 hn2
                rw [HMM.out] at hi5
                have bx5 := (HBX3.out.later b5).cell 0
                simp only [List.getElem?_toArray, List.getElem?_cons_zero] at bx5
                have b25 := below_trans (below_trans bW2 b3) b5
                have I2 := hi2.later b25
                have C2 := Lib.hid (hq2.later b25)
                have C1 := Lib.hid (C3.out.later b5)
                have C5 := Lib.hid hq5
                have hsame : ∀ wx, Below wc.heap.size wc wx → Calls Try.prog 16 #[.agg #[.slice p2 xs.length cp2], .agg #[.slice p5 ms.length cp5]] wx fun e w' => e = .returned (.bool true) ∧ Below wx.heap.size wx w' := fun wx h => by
                  have := rsame_any p2 p5 _ _ cp2 cp5 wx (I2.later h) (hi5.later h) (by rw [HMML.out]; omega) (by rw [HMML.out]; omega)
                  rw [HMML.out] at this
                  rw [HMK.out]
                  simpa using this
                have HSAME := Lib.hid hsame
                have hlb : w2.heap.size < wc.heap.size := by have := (HBX3.out.later b5).lt; exact this
                have hdll := HDL.out
                clear hsame I2 hi5 hi2 hq2 hq5 HI2 HI5
                generalize toldTo ms dl dl.length = T5 at *
                generalize toldTo xs l l.length = T0 at *
                go_wp2_with fail
                refine (HSAME.out _ (Below.refl _ _)).mono ?_
                rintro e w6 ⟨rfl, b6⟩
                have b6a := below_of wc (bel_alloc (Below.refl w6.heap.size w6) (Obj.cells #[] 29)) b6
                have b6s := (bel_alloc (Below.refl w6.heap.size w6) (Obj.cells #[] 29)).size
                go_wp2_with (first
                  | (at_builtin; refine wpList_append_res rfl (.tmp 88) (.tmp 89) rfl w6.heap.size _ 0 [] rfl (own_none w6) q3 _ cq3 (resCells T1) rfl (C1.out.later b6a) (by rw [resCells_length, HT1.out]) (resCells_one _) HQN3.out (by omega) (Nat.zero_add _) (List.nil_append _) b6s ?_; intro v7 w7 T7 B7; have b7 := b6a.trans (B7.mono b6.size); have HT7 := Lib.hid T7; have b7s := Nat.le_trans b6s (Nat.le_refl _); have b67 := (bel_alloc (Below.refl w6.heap.size w6) (Obj.cells #[] 29)).trans B7; clear T7 B7)
                  | (at_builtin; refine wpList_append_res rfl (.tmp 90) (.tmp 91) rfl w6.heap.size _ _ (resCells T1) rfl HT7.out q5 _ cq5 (resCells T5) rfl (C5.out.later b7) (by rw [resCells_length, HT5.out]; omega) (resCells_one _) HQN5.out (by omega) (N := l.length) (by omega) (TT := resCells T0) (by rw [HTT.out, resCells_append]) b67.size ?_; intro v8 w8 T8 B8; obtain ⟨q8, c8, rfl, hc8⟩ := own_slice T8; have b8 := b7.trans (B8.mono b6.size); have HC8 := Lib.hid hc8; clear T8 B8 hc8))
                refine (rtold_same q2 q8 T0 l.length cq2 c8 w8 HT0.out (C2.out.later b8) HC8.out (by omega)).mono ?_
                rintro e w9 ⟨rfl, b9⟩
                go_wp2_with fail
                go_ret
                exact ⟨by first | rfl | (simp; done), below_trans hbW (below_trans b03 (below_trans b5 (below_trans b8 b9)))⟩
              · have h2 : (err != 0) = true := by simpa using he0
                have h3 : (err == 0) = false := by simpa using he0
                clear he0
                go_wp2_with fail
                go_ret
                exact ⟨by first | rfl | (simp; done), below_trans hbW (below_trans b03 b5)⟩)
        · have hst := whyTo_stays xs.length l k l.length he hkl
          rw [HE.out] at hst
          rw [← hst] at he ⊢
          clear hst
          have h2 : (err != 0) = true := by simpa using he
          have h3 : (err == 0) = false := by simpa using he
          clear he HI3
          go_wp2_with fail
          go_ret
          exact ⟨by first | rfl | (simp; done), below_trans hbW b03⟩
    · have g2 : (30 : Int) < l.length := by omega
      go_enter Try.func7, Try.ntmps7
      go_wp2_with fail
      rw [← HW.out]
      refine (shown_any _).mono ?_
      rintro e w1 ⟨rfl, b1⟩
      have c1 : w1.cell? ⟨w.heap.size, 0, none⟩ = some (.slice a0 xs.length cap0) := (HB0.out.later b1).cell 0
      go_wp2_with fail
      go_ret
      exact ⟨rfl, below_trans hbW b1⟩
  · have g1 : (60 : Int) < xs.length := by omega
    go_enter Try.func7, Try.ntmps7
    go_wp2_with fail
    rw [← HW.out]
    refine (shown_any _).mono ?_
    rintro e w1 ⟨rfl, b1⟩
    have c1 : w1.cell? ⟨w.heap.size, 0, none⟩ = some (.slice a0 xs.length cap0) := (HB0.out.later b1).cell 0
    go_wp2_with fail
    go_ret
    exact ⟨rfl, below_trans hbW b1⟩

end Go.Proofs.Ytnjpdgahjbijcaa
