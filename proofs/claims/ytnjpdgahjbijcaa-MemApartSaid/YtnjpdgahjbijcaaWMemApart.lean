/-
  MEM: the walk of the law MemApart.
-/
import Derived.Test.YtnjpdgahjbijcaaMemE
import Derived.Test.YtnjpdgahjbijcaaMemP
import Derived.Test.YtnjpdgahjbijcaaMemH
namespace Go.Proofs.Ytnjpdgahjbijcaa
open Go.ChangeShapes Go.WideShapes Go.ChangeAt Go.RowKit

/-- a row of two accesses, in a block of its own -/
theorem accs_two {w : World} {b : Nat} {A B : Acc} (h : Blk w b 26 #[.int .i64 A.k, .int .i64 A.c, .int .i64 A.o, .int .i64 A.n, .int .i64 B.k, .int .i64 B.c, .int .i64 B.o, .int .i64 B.n]) (hA : In64 A.n) (hB : In64 B.n) : Accs w (some ⟨b, 0, none⟩) [A, B] := by
  refine ⟨fun i hi => ⟨b, 0, rfl, h.lt, ?_⟩, fun a ha => ?_⟩
  · simp only [List.length_cons, List.length_nil] at hi
    rcases i with _ | _ | i
    · exact ⟨h.cell 0, h.cell 1, h.cell 2, h.cell 3⟩
    · exact ⟨h.cell 4, h.cell 5, h.cell 6, h.cell 7⟩
    · omega
  · simp only [List.mem_cons, List.not_mem_nil, or_false] at ha
    rcases ha with rfl | rfl
    · exact hA
    · exact hB

theorem Blk.made2 (w : World) (o : Obj) (t : TypeId) (cs : Array Value) : Blk ((w.alloc o).alloc (.cells cs t)) (w.heap.size + 1) t cs := by
  have := Blk.made (w.alloc o) t cs
  simpa [go_sem] using this

/-- what a row of two accesses makes, and tells -/
def TwoPost (w : World) (us : List Int) (ra rb : Int × Bool) (err : Int) (e : Ending) (w' : World) : Prop :=
  ∃ p cap q n cap2, e = .returned (.tuple #[.agg #[.slice p us.length cap], .slice q n cap2, .int .i64 err]) ∧ Below w.heap.size w w' ∧
    (err = 0 → Ints w' p us ∧ n = 2 ∧ Cells w' q [.int .i64 ra.1, .bool ra.2, .int .i64 rb.1, .bool rb.2])

theorem two_any (p : Option Addr) (b cap : Nat) (xs : List Int) (A B : Acc) (ra rb : Int × Bool) (w : World) (hx : Ints w p xs) (hl : xs.length ≤ 1000000)
    (h : Blk w b 26 #[.int .i64 A.k, .int .i64 A.c, .int .i64 A.o, .int .i64 A.n, .int .i64 B.k, .int .i64 B.c, .int .i64 B.o, .int .i64 B.n]) (hA : In64 A.n) (hB : In64 B.n) (ht : whyTo xs.length [A, B] 2 = 0 → toldTo xs [A, B] 2 = [ra, rb]) :
    Calls Try.prog 17 #[.agg #[.slice p xs.length cap], .slice (some ⟨b, 0, none⟩) 2 2] w (TwoPost w (madeTo xs [A, B] 2) ra rb (whyTo xs.length [A, B] 2)) := by
  refine (all_any p (some ⟨b, 0, none⟩) xs cap 2 [A, B] w hx hl (accs_two h hA hB) (by simp)).mono ?_
  rintro e w1 ⟨p1, cp1, q1, n1, cq1, he, hb1, hif⟩
  refine ⟨p1, cp1, q1, n1, cq1, by rw [madeTo_length]; exact he, hb1, fun h0 => ?_⟩
  change (if whyTo xs.length [A, B] 2 = 0 then _ else _) at hif
  rw [if_pos h0] at hif
  obtain ⟨h1, h2, h3⟩ := hif
  refine ⟨h1, h2, ?_⟩
  change Cells w1 q1 (resCells (toldTo xs [A, B] 2)) at h3
  rw [ht h0] at h3
  exact h3

set_option maxRecDepth 40000 in
set_option maxHeartbeats 4000000 in
theorem walkMemApart (a0 : Option Addr) (len0 cap0 : Nat) (z0 : List Int) (k c o n k2 c2 o2 n2 : Int) (w : World) (h0 : IsRow .i64 w a0 len0 cap0 z0)
    (_hk : -9223372036854775808 ≤ k ∧ k ≤ 9223372036854775807) (_hc : -9223372036854775808 ≤ c ∧ c ≤ 9223372036854775807) (_ho : -9223372036854775808 ≤ o ∧ o ≤ 9223372036854775807) (hn : -9223372036854775808 ≤ n ∧ n ≤ 9223372036854775807)
    (_hk2 : -9223372036854775808 ≤ k2 ∧ k2 ≤ 9223372036854775807) (_hc2 : -9223372036854775808 ≤ c2 ∧ c2 ≤ 9223372036854775807) (_ho2 : -9223372036854775808 ≤ o2 ∧ o2 ≤ 9223372036854775807) (hn2 : -9223372036854775808 ≤ n2 ∧ n2 ≤ 9223372036854775807) :
    Calls Try.prog 5 #[.agg #[.slice a0 len0 cap0], .agg #[.int .i64 k, .int .i64 c, .int .i64 o, .int .i64 n], .agg #[.int .i64 k2, .int .i64 c2, .int .i64 o2, .int .i64 n2]] w fun e w' => e = .returned (.bool true) ∧ Below w.heap.size w w' := by
  obtain ⟨hx, hxl, hx2⟩ := Ints.of_row h0
  generalize z0.take len0 = xs at hx hxl
  subst hxl
  clear h0
  obtain ⟨W, hW⟩ : ∃ W, W = ((w.alloc (Obj.cells #[Value.slice a0 xs.length cap0] 24)).alloc (Obj.cells #[Value.int .i64 k, Value.int .i64 c, Value.int .i64 o, Value.int .i64 n] 26)).alloc (Obj.cells #[Value.int .i64 k2, Value.int .i64 c2, Value.int .i64 o2, Value.int .i64 n2] 26) := ⟨_, rfl⟩
  have hbW : Below w.heap.size w W := by rw [hW]; exact bel_alloc (bel_alloc (bel_alloc (Below.refl _ _) _) _) _
  have hs : W.heap.size = w.heap.size + 3 := by rw [hW]; simp [go_sem]
  have hf : ∀ wx, Below W.heap.size W wx → wx.cell? ⟨w.heap.size, 0, none⟩ = some (.slice a0 xs.length cap0) ∧ wx.cell? ⟨w.heap.size + 1, 0, none⟩ = some (.int .i64 k) ∧ wx.cell? ⟨w.heap.size + 1, 1, none⟩ = some (.int .i64 c)
      ∧ wx.cell? ⟨w.heap.size + 1, 2, none⟩ = some (.int .i64 o) ∧ wx.cell? ⟨w.heap.size + 1, 3, none⟩ = some (.int .i64 n)
      ∧ wx.cell? ⟨w.heap.size + 1 + 1, 0, none⟩ = some (.int .i64 k2) ∧ wx.cell? ⟨w.heap.size + 1 + 1, 1, none⟩ = some (.int .i64 c2)
      ∧ wx.cell? ⟨w.heap.size + 1 + 1, 2, none⟩ = some (.int .i64 o2) ∧ wx.cell? ⟨w.heap.size + 1 + 1, 3, none⟩ = some (.int .i64 n2) ∧ Ints wx a0 xs ∧ w.heap.size < wx.heap.size ∧ w.heap.size + 1 < wx.heap.size ∧ w.heap.size + 1 + 1 < wx.heap.size := by
    intro wx hb
    have hq : ∀ b j v, b < w.heap.size + 3 → W.cell? ⟨b, j, none⟩ = some v → wx.cell? ⟨b, j, none⟩ = some v := fun b j v hlt h => by rw [hb.cell (p := ⟨b, j, none⟩) (by show b < _; omega)]; exact h
    have := hb.size
    refine ⟨hq _ _ _ (by omega) (by rw [hW]; simp [go_sem]), hq _ _ _ (by omega) (by rw [hW]; simp [go_sem]), hq _ _ _ (by omega) (by rw [hW]; simp [go_sem]), hq _ _ _ (by omega) (by rw [hW]; simp [go_sem]), hq _ _ _ (by omega) (by rw [hW]; simp [go_sem]),
      hq _ _ _ (by omega) (by rw [hW]; simp [go_sem]), hq _ _ _ (by omega) (by rw [hW]; simp [go_sem]), hq _ _ _ (by omega) (by rw [hW]; simp [go_sem]), hq _ _ _ (by omega) (by rw [hW]; simp [go_sem]), (hx.later hbW).later hb, by omega, by omega, by omega⟩
  have HF := Lib.hid hf
  have HW := Lib.hid hW
  clear hf hW hs hx
  by_cases hl : xs.length ≤ 100
  · have g1 : ¬ ((100 : Int) < xs.length) := by omega
    by_cases hsw : swaps ⟨k, c, o, n⟩ ⟨k2, c2, o2, n2⟩
    · have hsw' := hsw
      unfold swaps at hsw'
      simp only at hsw'
      have HSW := Lib.hid hsw
      clear hsw
      -- what each order does
      obtain ⟨e1, he1⟩ : ∃ e1, whyTo xs.length [⟨k, c, o, n⟩, ⟨k2, c2, o2, n2⟩] 2 = e1 := ⟨_, rfl⟩
      obtain ⟨e2, he2⟩ : ∃ e2, whyTo xs.length [⟨k2, c2, o2, n2⟩, ⟨k, c, o, n⟩] 2 = e2 := ⟨_, rfl⟩
      have hee : e1 = 0 ↔ e2 = 0 := by rw [← he1, ← he2]; exact why_both.1
      obtain ⟨us, vs, ra, rb, sa, sb, hus, hvs, ht1, ht2, hpair⟩ : ∃ us vs ra rb sa sb, madeTo xs [⟨k, c, o, n⟩, ⟨k2, c2, o2, n2⟩] 2 = us ∧ madeTo xs [⟨k2, c2, o2, n2⟩, ⟨k, c, o, n⟩] 2 = vs ∧ (e1 = 0 → toldTo xs [⟨k, c, o, n⟩, ⟨k2, c2, o2, n2⟩] 2 = [ra, rb]) ∧ (e1 = 0 → toldTo xs [⟨k2, c2, o2, n2⟩, ⟨k, c, o, n⟩] 2 = [sb, sa]) ∧ (e1 = 0 → us = vs ∧ ((c = c2 ∧ k = 4) ∨ (ra = sa ∧ rb = sb))) := by
        by_cases h0 : e1 = 0
        · obtain ⟨hA, hB⟩ := why_both.2 (he1.trans h0)
          obtain ⟨hm, ra, rb, sa, sb, h1, h2, h3⟩ := apart_facts hA hB HSW.out
          exact ⟨_, _, ra, rb, sa, sb, rfl, rfl, fun _ => h1, fun _ => h2, fun _ => ⟨hm, h3⟩⟩
        · exact ⟨_, _, (0, false), (0, false), (0, false), (0, false), rfl, rfl, fun h => absurd h h0, fun h => absurd h h0, fun h => absurd h h0⟩
      have hul : us.length = xs.length := by rw [← hus]; exact madeTo_length _ _ _
      have hC1 : ∀ wx b, Ints wx a0 xs → Blk wx b 26 #[.int .i64 k, .int .i64 c, .int .i64 o, .int .i64 n, .int .i64 k2, .int .i64 c2, .int .i64 o2, .int .i64 n2] →
          Calls Try.prog 17 #[.agg #[.slice a0 xs.length cap0], .slice (some ⟨b, 0, none⟩) 2 2] wx (TwoPost wx us ra rb e1) := fun wx b h hb => by
        rw [← hus, ← he1]
        exact two_any a0 b cap0 xs ⟨k, c, o, n⟩ ⟨k2, c2, o2, n2⟩ ra rb wx h (by omega) hb hn hn2 fun h => ht1 (he1 ▸ h)
      have hC2 : ∀ wx b, Ints wx a0 xs → Blk wx b 26 #[.int .i64 k2, .int .i64 c2, .int .i64 o2, .int .i64 n2, .int .i64 k, .int .i64 c, .int .i64 o, .int .i64 n] →
          Calls Try.prog 17 #[.agg #[.slice a0 xs.length cap0], .slice (some ⟨b, 0, none⟩) 2 2] wx (TwoPost wx vs sb sa e2) := fun wx b h hb => by
        rw [← hvs, ← he2]
        exact two_any a0 b cap0 xs ⟨k2, c2, o2, n2⟩ ⟨k, c, o, n⟩ sb sa wx h (by omega) hb hn2 hn fun h => ht2 (hee.2 (he2 ▸ h))
      have HC1 := Lib.hid hC1
      have HC2 := Lib.hid hC2
      have HP := Lib.hid hpair
      have HEE := Lib.hid hee
      have HUL := Lib.hid hul
      have HSP := Lib.hid hsw'
      clear hC1 hC2 hpair hee hus hvs ht1 ht2 he1 he2 hul hsw'
      have HQ : RowKit.Hid (∃ Pr : Prop, (Pr ↔ (ra = sa ∧ rb = sb)) ∧ ((c = c2 ∧ k = 1 ∧ k2 = 1 ∧ (e1 = 0 → us = vs ∧ Pr)) ∨ (c = c2 ∧ k = 4 ∧ k2 = 4 ∧ (e1 = 0 → us = vs ∧ True)) ∨ ((c == c2) = false ∧ (k == k2) = false ∧ (e1 = 0 → us = vs ∧ Pr)) ∨ ((c == c2) = false ∧ k = 1 ∧ k2 = 1 ∧ (e1 = 0 → us = vs ∧ Pr)) ∨ ((c == c2) = false ∧ k = 4 ∧ k2 = 4 ∧ (e1 = 0 → us = vs ∧ Pr)) ∨ ((c == c2) = false ∧ k = k2 ∧ ((k2 == 1) = false ∧ (k2 == 4) = false) ∧ (e1 = 0 → us = vs ∧ Pr)))) := by
        refine Lib.hid ⟨_, Iff.rfl, ?_⟩
        have hp := HP.out
        have hsp := HSP.out
        simp only [beq_eq_false_iff_ne]
        by_cases hc : c = c2
        · obtain ⟨h1, h2 | h2⟩ := hsp hc
          · exact .inl ⟨hc, h2, by omega, fun h => ⟨(hp h).1, (hp h).2.resolve_left (by omega)⟩⟩
          · exact .inr (.inl ⟨hc, h2, by omega, fun h => ⟨(hp h).1, trivial⟩⟩)
        · have hq : e1 = 0 → us = vs ∧ (ra = sa ∧ rb = sb) := fun h => ⟨(hp h).1, (hp h).2.resolve_left (by omega)⟩
          refine .inr (.inr ?_)
          by_cases h1 : k = k2
          · refine .inr ?_
            by_cases h2 : k = 1
            · exact .inl ⟨hc, h2, by omega, hq⟩
            · by_cases h3 : k = 4
              · exact .inr (.inl ⟨hc, h3, by omega, hq⟩)
              · exact .inr (.inr ⟨hc, h1, ⟨by omega, by omega⟩, hq⟩)
          · exact .inl ⟨hc, h1, hq⟩
      clear HP HSP HSW
      obtain ⟨Pr, hPr, hQ⟩ := HQ.out
      have HPR := Lib.hid hPr
      clear hPr HQ
      rcases hQ with ⟨rfl, rfl, rfl, hQ⟩ | ⟨rfl, rfl, rfl, hQ⟩ | ⟨hcc, hkk, hQ⟩ | ⟨hcc, rfl, rfl, hQ⟩ | ⟨hcc, rfl, rfl, hQ⟩ | ⟨hcc, rfl, ⟨hk1, hk4⟩, hQ⟩
      all_goals (
        have HQ := Lib.hid hQ
        clear hQ
        go_enter Try.func5, Try.ntmps5
        go_wp2_with fail
        rw [← HW.out]
        refine (shown_any _).mono ?_
        rintro e w1 ⟨rfl, hb1⟩
        obtain ⟨c0, c1, c2', c3, c4, c5, c6, c7, c8, i0, s0, s1, s2⟩ := HF.out w1 hb1
        go_wp2_with fail
        refine (HC1.out _ _ (i0.later (bel_alloc (Below.refl _ _) _)) (Blk.made _ _ _)).mono ?_
        rintro e w2 ⟨p2, cp2, q2, m2, cq2, rfl, hb2', hif2⟩
        have hb2 : Below w1.heap.size w1 w2 := below_of w1 hb2' (bel_alloc (Below.refl _ _) _)
        have hbw2 := below_trans hb1 hb2
        have HI2 := Lib.hid hif2
        clear c0 c1 c2' c3 c4 c5 c6 c7 c8 i0 s0 s1 s2 hif2 hb2'
        obtain ⟨c0, c1, c2', c3, c4, c5, c6, c7, c8, i0, s0, s1, s2⟩ := HF.out w2 hbw2
        go_wp2_with fail
        refine (HC2.out _ _ (i0.later (bel_alloc (bel_alloc (Below.refl _ _) _) _)) (Blk.made2 _ _ _ _)).mono ?_
        rintro e w3 ⟨p3, cp3, q3, m3, cq3, rfl, hb3', hif3⟩
        have hb3 : Below w2.heap.size w2 w3 := below_of w2 hb3' (bel_alloc (bel_alloc (Below.refl _ _) _) _)
        have hbw3 := below_trans hbw2 hb3
        have x0 : w3.cell? ⟨w2.heap.size, 0, none⟩ = some (.slice p2 us.length cp2) := by
          rw [hb3'.cell (p := ⟨w2.heap.size, 0, none⟩) (by simp [go_sem])]; simp [go_sem]
        have lx : w2.heap.size < w3.heap.size := by have := hb3'.size; simp [go_sem] at this; omega
        have HI3 := Lib.hid hif3
        clear c0 c1 c2' c3 c4 c5 c6 c7 c8 i0 s0 s1 s2 hif3 hb3'
        obtain ⟨c0, c1, c2', c3, c4, c5, c6, c7, c8, i0, s0, s1, s2⟩ := HF.out w3 hbw3
        by_cases h0 : e1 = 0
        · have h2 := HEE.out.1 h0
          subst h0 h2
          obtain ⟨rfl, hpr⟩ := HQ.out rfl
          obtain ⟨hi2, rfl, hq2⟩ := HI2.out rfl
          obtain ⟨hi3, rfl, hq3⟩ := HI3.out rfl
          have hi2' := hi2.later hb3
          have hq2' := hq2.later hb3
          obtain ⟨b2, o2', rfl, -, hc2⟩ := hq2'.opened (by simp)
          obtain ⟨b3, o3', rfl, -, hc3⟩ := hq3.opened (by simp)
          have r0 := hc2 0 _ rfl
          have r1 := hc2 1 _ rfl
          have r2 := hc2 2 _ rfl
          have r3 := hc2 3 _ rfl
          have t0 := hc3 0 _ rfl
          have t1 := hc3 1 _ rfl
          have t2 := hc3 2 _ rfl
          have t3 := hc3 3 _ rfl
          simp only [Nat.add_zero] at r0 t0
          clear hc2 hc3 hq2 hq2' hq3 hi2
          clear HI2 HI3 HC1 HC2 HQ HEE
          go_wp2_with fail
          obtain ⟨W4, hW4⟩ : ∃ W4, W4 = w3.alloc (Obj.cells #[Value.slice p3 us.length cp3] 24) := ⟨_, rfl⟩
          have bW4 : Below w3.heap.size w3 W4 := by rw [hW4]; exact bel_alloc (Below.refl _ _) _
          have X4 : Blk W4 w3.heap.size 24 #[Value.slice p3 us.length cp3] := by rw [hW4]; exact Blk.made _ _ _
          have hbw4 := below_trans hbw3 bW4
          rw [← hW4]
          clear hW4
          have hq : ∀ (y : After W4) (a : Addr) (v : Value), w3.cell? a = some v → y.w.cell? a = some v := fun y a v h => by rw [(below_trans bW4 y.bel).cell (World.block_lt_of_cell? w3 a h)]; exact h
          have y0 : ∀ y : After W4, y.w.cell? ⟨w3.heap.size, 0, none⟩ = some (.slice p3 us.length cp3) := fun y => (X4.later y.bel).cell 0
          replace x0 := fun y => hq y _ _ x0
          replace r0 := fun y => hq y _ _ r0
          replace r1 := fun y => hq y _ _ r1
          replace r2 := fun y => hq y _ _ r2
          replace r3 := fun y => hq y _ _ r3
          replace t0 := fun y => hq y _ _ t0
          replace t1 := fun y => hq y _ _ t1
          replace t2 := fun y => hq y _ _ t2
          replace t3 := fun y => hq y _ _ t3
          replace c0 := fun y => hq y _ _ c0
          replace c1 := fun y => hq y _ _ c1
          replace c2' := fun y => hq y _ _ c2'
          replace c5 := fun y => hq y _ _ c5
          replace c6 := fun y => hq y _ _ c6
          have I2 := Lib.hid (hi2'.later bW4)
          have I3 := Lib.hid (hi3.later bW4)
          have HU : RowKit.Hid (us.length ≤ 1000000) := Lib.hid (by have := HUL.out; omega)
          clear hq hi2' hi3 i0 c3 c4 c7 c8 s0 s1 s2 X4
          obtain ⟨ra1, ra2⟩ := ra
          obtain ⟨rb1, rb2⟩ := rb
          obtain ⟨sa1, sa2⟩ := sa
          obtain ⟨sb1, sb2⟩ := sb
          simp only at r0 r1 r2 r3 t0 t1 t2 t3
          first
            | (have hpp := HPR.out.1 hpr
               obtain ⟨e1, e2⟩ := hpp
               injection e1 with e1a e1b
               injection e2 with e2a e2b
               subst e1a e1b e2a e2b)
            | skip
          clear HPR hpr
          refine wp_region_after (by kernel_rfl) (by kernel_rfl) ?_
          repeat (go_big_quiet_step (first
            | (go_at_call 16; exact calls_after (rsame_any _ _ _ _ _ _ _ (I2.out.later (After.bel _)) (I3.out.later (After.bel _)) HU.out HU.out))))
          refine wpQuiet_nil ?_
          rintro _ ⟨y, rfl⟩
          go_wp2_with fail
          go_ret
          exact ⟨rfl, below_trans hbW (below_trans hbw4 y.bel)⟩
        · have h1 : (e1 != 0) = true := by simpa using h0
          have h2 : (e2 != 0) = true := by simpa using fun h => h0 (HEE.out.2 h)
          clear h0
          go_wp2_with fail
          go_ret
          exact ⟨rfl, below_trans hbW (bel_alloc hbw3 _)⟩)
    · have hcc : c = c2 := by
        apply Classical.byContradiction; intro h; exact hsw fun h' => absurd h' h
      have hkk : (k == k2) = false ∨ (k = k2 ∧ (k2 == 1) = false ∧ (k2 == 4) = false) := by
        simp only [beq_eq_false_iff_ne]
        by_cases h1 : k = k2
        · exact .inr ⟨h1, fun h => hsw fun _ => ⟨h1, .inl (h1.trans h)⟩, fun h => hsw fun _ => ⟨h1, .inr (h1.trans h)⟩⟩
        · exact .inl h1
      subst hcc
      clear hsw
      rcases hkk with hkk | ⟨rfl, hk1, hk4⟩
      all_goals (
        go_enter Try.func5, Try.ntmps5
        go_wp2_with fail
        rw [← HW.out]
        refine (shown_any _).mono ?_
        rintro e w1 ⟨rfl, hb1⟩
        obtain ⟨c0, c1, c2', c3, c4, c5, c6, c7, c8, i0, s0, s1, s2⟩ := HF.out w1 hb1
        go_wp2_with fail
        go_ret
        exact ⟨rfl, below_trans hbW hb1⟩)
  · have g1 : (100 : Int) < xs.length := by omega
    go_enter Try.func5, Try.ntmps5
    go_wp2_with fail
    rw [← HW.out]
    refine (shown_any _).mono ?_
    rintro e w1 ⟨rfl, hb1⟩
    obtain ⟨c0, c1, c2', c3, c4, c5, c6, c7, c8, i0, s0, s1, s2⟩ := HF.out w1 hb1
    go_wp2_with fail
    all_goals go_ret
    all_goals exact ⟨rfl, below_trans hbW hb1⟩

end Go.Proofs.Ytnjpdgahjbijcaa
