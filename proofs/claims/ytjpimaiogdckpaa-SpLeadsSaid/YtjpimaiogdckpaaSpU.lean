/-
  SP: Of, of all rows of up to three hundred splits.
-/
import Derived.Test.YtjpimaiogdckpaaSpO
import Derived.Test.YtjpimaiogdckpaaSpN
import Derived.Laws.EntriesVeiled
import Derived.Deep.OwnRows
namespace Go.Proofs.Ytjpimaiogdckpaa
open Go.ChangeShapes Go.WideShapes Go.ChangeAt Go.RowKit

theorem pairInfo : (Try.prog.info? 34).map (fun i => (i.zero, i.size, i.bytes)) = some (some (.agg #[.int .i64 0, .int .i64 0]), 2, 16) := by kernel_rfl
set_option maxRecDepth 100000 in
theorem make_pairs (n : Nat) (hn : n ≤ 1000000) (w : World) : (Instr.makeSlice 24 (.int .i64 (n : Int)) (.int .i64 (n : Int))).run Try.prog w = .ok (.slice (some ⟨w.heap.size, 0, none⟩) n n) (w.alloc (.cells (madeCells #[Value.int .i64 0, .int .i64 0] (n * 2)) 34)) := by
  obtain ⟨i0, hi0⟩ : ∃ i, Try.prog.info? 34 = some i := ⟨_, rfl⟩
  have hz := pairInfo
  rw [hi0] at hz
  simp only [Option.map_some, Option.some.injEq, Prod.mk.injEq] at hz
  obtain ⟨hz0, hz1, hz2⟩ := hz
  have hr := run_make (P := Try.prog) w 24 34 i0 _ Try.underlying24 hi0 hz0 .i64 .i64 n n (by omega) (Int.le_refl _) (by rw [hz2]; omega) (by omega)
  rw [hz1] at hr
  simp only [Int.toNat_natCast] at hr
  exact hr

set_option maxRecDepth 100000 in
theorem ridx0 (p0 p1 : Option Addr) (n0 c0 n1 c1 : Nat) (wx : World) : (Instr.index 47 (.agg #[.slice p0 n0 c0, .slice p1 n1 c1]) (.int .i64 0)).run Try.prog wx = .ok (.slice p0 n0 c0) wx := by
  obtain ⟨i0, hi0, hz⟩ : ∃ i, Try.prog.info? 45 = some i ∧ i.size = 1 := ⟨_, rfl, rfl⟩
  simp [Instr.index, run_underlying Try.underlying47, run_underlying Try.underlying45, asIntOf, sizeOf, typeInfo, part, hi0, hz, go_sem]
set_option maxRecDepth 100000 in
theorem ridx1 (p0 p1 : Option Addr) (n0 c0 n1 c1 : Nat) (wx : World) : (Instr.index 47 (.agg #[.slice p0 n0 c0, .slice p1 n1 c1]) (.int .i64 1)).run Try.prog wx = .ok (.slice p1 n1 c1) wx := by
  obtain ⟨i0, hi0, hz⟩ : ∃ i, Try.prog.info? 45 = some i ∧ i.size = 1 := ⟨_, rfl, rfl⟩
  simp [Instr.index, run_underlying Try.underlying47, run_underlying Try.underlying45, asIntOf, sizeOf, typeInfo, part, hi0, hz, go_sem]
theorem Nums.got {w : World} {g n : Nat} {xs : List Int} (h : Nums w (some ⟨g, 0, none⟩) n xs) (i : Nat) (x : Int) (hx : xs[i]? = some x) : g < w.heap.size ∧ w.cell? ⟨g, i, none⟩ = some (.int .i64 x) := by
  obtain ⟨hi, rfl⟩ := List.getElem?_eq_some_iff.1 hx
  obtain ⟨b, off, h1, h2, h3⟩ := h.at_ i hi
  simp only [Option.some.injEq, Addr.mk.injEq, and_true] at h1
  obtain ⟨rfl, rfl⟩ := h1
  rw [Nat.zero_add] at h3
  exact ⟨h2, h3⟩

set_option maxRecDepth 100000 in
set_option maxHeartbeats 8000000 in
theorem of_no (l : List SplV) (n : Nat) (hn : l.length = n) (hm : n ≤ 300) (hs : spRun .zero l = none) (p : Option Addr) (c : Nat) (w : World) (h : Sds w p l) :
    Calls Try.prog 9 #[.slice p n c] w fun e w' => e = .returned (.tuple #[.slice none 0 0, .int .i64 1]) ∧ Below w.heap.size w w' := by
  have HM := Lib.hid (mayBe_any l n hn hm p c w h)
  rw [hs, show (none : Option SpS).isSome = false from rfl] at HM
  clear hs h hn
  go_enter Try.func9, Try.ntmps9
  go_wp2_with fail
  refine HM.out.mono ?_
  rintro e w0 ⟨rfl, hb0⟩
  have HB0 := Lib.hid hb0
  clear hb0
  go_wp2_with fail
  exact bodyPost_ret (v := .tuple #[.slice none 0 0, .int .i64 1]) (by simp [results, Try.results9, go_sem]) rfl ⟨rfl, HB0.out⟩

set_option maxRecDepth 100000 in
set_option maxHeartbeats 16000000 in
theorem of_ok (l : List SplV) (n : Nat) (hn : l.length = n) (hm : n ≤ 300) (s : SpS) (hs : spRun .zero l = some s) (p : Option Addr) (c : Nat) (w : World) (h : Sds w p l) :
    Calls Try.prog 9 #[.slice p n c] w fun e w' => ∃ g, e = .returned (.tuple #[.slice (some ⟨g, 0, none⟩) s.n s.n, .int .i64 0]) ∧ w.heap.size ≤ g ∧ Pls w' (some ⟨g, 0, none⟩) (placesOf s) ∧ Below w.heap.size w w' := by
  have HN := Lib.hid hn
  have HS := Lib.hid h
  have HRUN := Lib.hid hs
  have HM := Lib.hid (mayBe_any l n hn hm p c w h)
  rw [hs, show (some s).isSome = true from rfl] at HM
  have HF : Hid (l.take n = l) := Lib.hid (List.take_of_length_le (by rw [hn]; exact Nat.le_refl _))
  clear hs h hn
  go_enter Try.func9, Try.ntmps9
  go_wp2_with fail
  refine HM.out.mono ?_
  rintro e w0 ⟨rfl, hb0⟩
  have HB0 := Lib.hid hb0
  clear hb0
  go_wp2_with fail
  refine (newLine_any _).mono ?_
  rintro e w1 ⟨b1, rfl, L1, hs1, hb1⟩
  have HL1 := Lib.hid L1
  have HS1 : Hid (w.heap.size ≤ b1) := Lib.hid (Nat.le_trans HB0.out.size hs1)
  have HB1 := Lib.hid (HB0.out.trans (hb1.mono HB0.out.size))
  clear L1 hs1 hb1 HB0 HM
  go_wp2_with fail
  refine (newLine_any _).mono ?_
  rintro e w2 ⟨b2, rfl, L2, hs2, hb2⟩
  have HL2 := Lib.hid L2
  have HS2 : Hid (w.heap.size ≤ b2) := Lib.hid (Nat.le_trans HB1.out.size hs2)
  have HNE : Hid (b1 ≠ b2) := Lib.hid (Nat.ne_of_lt (Nat.lt_of_lt_of_le HL1.out.lt hs2))
  have HL1 := Lib.hid (HL1.out.later hb2)
  have HB2 := Lib.hid (HB1.out.trans (hb2.mono HB1.out.size))
  clear L2 hs2 hb2 HB1
  obtain ⟨V, hV⟩ : ∃ V, V = w2.alloc (Obj.cells #[.func (Fn.func 18) #[.pointer (some ⟨b1, 0, none⟩)] #[], .func (Fn.func 18) #[.pointer (some ⟨b2, 0, none⟩)] #[]] 44) := ⟨_, rfl⟩
  have hbv : Below w2.heap.size w2 V := by rw [hV]; exact below_alloc1 _ _
  have HKF0 : Hid (Blk V w2.heap.size 44 #[.func (Fn.func 18) #[.pointer (some ⟨b1, 0, none⟩)] #[], .func (Fn.func 18) #[.pointer (some ⟨b2, 0, none⟩)] #[]]) := Lib.hid (by rw [hV]; exact Blk.made _ _ _)
  have HNF : Hid (w2.heap.size ≠ b1 ∧ w2.heap.size ≠ b2 ∧ w.heap.size ≤ w2.heap.size) := Lib.hid ⟨by have := HL1.out.lt; omega, by have := HL2.out.lt; omega, HB2.out.size⟩
  have HLA := Lib.hid (HL1.out.later hbv)
  have HLB := Lib.hid (HL2.out.later hbv)
  have HB3 := Lib.hid (HB2.out.trans (hbv.mono HB2.out.size))
  have HV := Lib.hid hV
  clear hV hbv HL1 HL2 HB2
  go_wp2_with fail
  rw [← HV.out]
  clear HV
  obtain ⟨gf, hgf⟩ : ∃ g, g = w2.heap.size := ⟨_, rfl⟩
  rw [← hgf] at HKF0 HNF ⊢
  clear hgf
  go_loopw [7, 27] (fun vn vi wr => ∃ (i N : Nat) (st : List (Nat × Nat)) (E H : List Int), vi = .int .i64 i ∧ i ≤ n ∧ vn = .int .i64 N ∧ ∃ W', W' = wr ∧ Hid (spRun .zero (l.take i) = some ⟨N, st, E, H⟩) ∧ Hid (Line W' b1 E) ∧ Hid (Line W' b2 H) ∧ Hid (Blk W' gf 44 #[.func (Fn.func 18) #[.pointer (some ⟨b1, 0, none⟩)] #[], .func (Fn.func 18) #[.pointer (some ⟨b2, 0, none⟩)] #[]]) ∧ Hid (Below w.heap.size w W')) (fun _ vi _ => n - (intOf vi).toNat)
  case atStart => exact ⟨0, 1, [(0, 0)], [0], [0], rfl, Nat.zero_le _, rfl, _, rfl, Lib.hid rfl, HLA, HLB, HKF0, HB3⟩
  case round =>
    clear HLA HLB HKF0 HB3
    obtain ⟨i, N, st, E, H, rfl, hi, rfl, wr, rfl, HR, HLA, HLB, HKF, HB⟩ := hrel
    have HOK0 := run_ok _ zero_ok (by show 1 + _ ≤ _; rw [List.length_take]; omega) HR.out
    have hN2 : N ≤ 901 := by have := HOK0.2.2.2.2; rw [List.length_take] at this; dsimp only [SpS.zero] at this; omega
    have HOK := Lib.hid HOK0.1
    clear HOK0
    by_cases hlt : i < n
    · have hil : i < l.length := by rw [HN.out]; exact hlt
      obtain ⟨t, HT⟩ : ∃ t, Hid (spRun .zero (l.take (i + 1)) = some t) := by
        obtain ⟨t, ht⟩ := run_prefix HRUN.out (i + 1)
        exact ⟨t, Lib.hid ht⟩
      obtain ⟨⟨kd, A, B, C, D⟩, hx⟩ : ∃ x, l[i] = x := ⟨_, rfl⟩
      have HX : Hid (spStep ⟨N, st, E, H⟩ ⟨kd, A, B, C, D⟩ = some t) := Lib.hid (by rw [← hx, ← run_take hil HR.out]; exact HT.out)
      have hat := (HS.out.later HB.out).at_ i hil
      rw [hx] at hat
      obtain ⟨b, off, rfl, hb, g0, g1, g2, g3, g4⟩ := hat
      dsimp only at g0 g1 g2 g3 g4
      clear hx
      obtain ⟨V1, hV1⟩ : ∃ V1, V1 = wr.alloc (Obj.cells #[.int .i64 kd, .int .i64 A, .int .i64 B, .int .i64 C, .int .i64 D] 37) := ⟨_, rfl⟩
      have hbv : Below wr.heap.size wr V1 := by rw [hV1]; exact below_alloc1 _ _
      have HKX : Hid (Blk V1 wr.heap.size 37 #[.int .i64 kd, .int .i64 A, .int .i64 B, .int .i64 C, .int .i64 D]) := Lib.hid (by rw [hV1]; exact Blk.made _ _ _)
      have HNX : Hid (wr.heap.size ≠ b1 ∧ wr.heap.size ≠ b2) := Lib.hid ⟨by have := HLA.out.lt; omega, by have := HLB.out.lt; omega⟩
      have f0 := HKF.out.cell 0
      have f1 := HKF.out.cell 1
      have fl := HKF.out.lt
      have HLA := Lib.hid (HLA.out.later hbv)
      have HLB := Lib.hid (HLB.out.later hbv)
      have HKF := Lib.hid (HKF.out.later hbv)
      have HB := Lib.hid (HB.out.trans (hbv.mono HB.out.size))
      have HV1 := Lib.hid hV1
      clear hV1 hbv
      by_cases hk1 : kd = 1
      · subst hk1
        obtain ⟨a, haN, rfl, rfl, rfl, hcase⟩ := step_fork HX.out HOK.out
        have hE : E.length = N := HOK.out.le
        have hH : H.length = N := HOK.out.lh
        have HC := Lib.hid hcase
        have HE := Lib.hid hE
        have HH := Lib.hid hH
        clear hcase hE hH
        go_wp2_with fail
        rw [← HV1.out]
        clear HV1 f0 f1 fl g0 g1 g2 g3 g4
        have hl1 : (E).length = N := HE.out
        refine (lineBehind_any (E) b1 (a) (by rw [hl1]; omega) (by rw [hl1]; omega) _ HLA.out).mono ?_
        rintro e wc1 ⟨rfl, L, hg⟩
        have HQ1 : Hid ((behL (E) (a)).length = N + 1) := Lib.hid ((beh_all HLA.out.rt (by rw [hl1]; omega) (by rw [hl1]; omega)).2.1.trans (by rw [hl1]))
        have HLB := Lib.hid (HLB.out.beside HLA.out hg (HNE.out.symm))
        have HKF := Lib.hid (HKF.out.beside hg (by have := HNF.out.1; simpa using this))
        have HKX := Lib.hid (HKX.out.beside hg (by have := HNX.out.1; simpa using this))
        have HB := Lib.hid (below_gb HB.out hg HB.out.size (fun i h => by injection h with h; rw [← h]; exact HS1.out))
        have HLA := Lib.hid L
        clear L hg hl1
        have f0 := HKF.out.cell 0
        have f1 := HKF.out.cell 1
        have fl := HKF.out.lt
        have x0 := HKX.out.cell 0
        have x1 := HKX.out.cell 1
        have x2 := HKX.out.cell 2
        have x3 := HKX.out.cell 3
        have x4 := HKX.out.cell 4
        have xl := HKX.out.lt
        go_wp2_with fail
        clear f0 f1 fl x0 x1 x2 x3 x4 xl
        have hl2 : (behL E a).length = N + 1 := HQ1.out
        refine (lineBehind_any (behL E a) b1 (N) (by rw [hl2]; omega) (by rw [hl2]; omega) _ HLA.out).mono ?_
        rintro e wc2 ⟨rfl, L, hg⟩
        have HQ2 : Hid ((behL (behL E a) (N)).length = N + 1 + 1) := Lib.hid ((beh_all HLA.out.rt (by rw [hl2]; omega) (by rw [hl2]; omega)).2.1.trans (by rw [hl2]))
        have HLB := Lib.hid (HLB.out.beside HLA.out hg (HNE.out.symm))
        have HKF := Lib.hid (HKF.out.beside hg (by have := HNF.out.1; simpa using this))
        have HKX := Lib.hid (HKX.out.beside hg (by have := HNX.out.1; simpa using this))
        have HB := Lib.hid (below_gb HB.out hg HB.out.size (fun i h => by injection h with h; rw [← h]; exact HS1.out))
        have HLA := Lib.hid L
        clear L hg hl2
        have f0 := HKF.out.cell 0
        have f1 := HKF.out.cell 1
        have fl := HKF.out.lt
        have x0 := HKX.out.cell 0
        have x1 := HKX.out.cell 1
        have x2 := HKX.out.cell 2
        have x3 := HKX.out.cell 3
        have x4 := HKX.out.cell 4
        have xl := HKX.out.lt
        go_wp2_with fail
        clear f0 f1 fl x0 x1 x2 x3 x4 xl
        have hl3 : (H).length = N := HH.out
        refine (lineBehind_any (H) b2 (a) (by rw [hl3]; omega) (by rw [hl3]; omega) _ HLB.out).mono ?_
        rintro e wc3 ⟨rfl, L, hg⟩
        have HQ3 : Hid ((behL (H) (a)).length = N + 1) := Lib.hid ((beh_all HLB.out.rt (by rw [hl3]; omega) (by rw [hl3]; omega)).2.1.trans (by rw [hl3]))
        have HLA := Lib.hid (HLA.out.beside HLB.out hg (HNE.out))
        have HKF := Lib.hid (HKF.out.beside hg (by have := HNF.out.2.1; simpa using this))
        have HKX := Lib.hid (HKX.out.beside hg (by have := HNX.out.2; simpa using this))
        have HB := Lib.hid (below_gb HB.out hg HB.out.size (fun i h => by injection h with h; rw [← h]; exact HS2.out))
        have HLB := Lib.hid L
        clear L hg hl3
        have f0 := HKF.out.cell 0
        have f1 := HKF.out.cell 1
        have fl := HKF.out.lt
        have x0 := HKX.out.cell 0
        have x1 := HKX.out.cell 1
        have x2 := HKX.out.cell 2
        have x3 := HKX.out.cell 3
        have x4 := HKX.out.cell 4
        have xl := HKX.out.lt
        go_wp2_with fail
        clear f0 f1 fl x0 x1 x2 x3 x4 xl
        have hl4 : (behL H a).length = N + 1 := HQ3.out
        refine (lineBehind_any (behL H a) b2 (a) (by rw [hl4]; omega) (by rw [hl4]; omega) _ HLB.out).mono ?_
        rintro e wc4 ⟨rfl, L, hg⟩
        have HQ4 : Hid ((behL (behL H a) (a)).length = N + 1 + 1) := Lib.hid ((beh_all HLB.out.rt (by rw [hl4]; omega) (by rw [hl4]; omega)).2.1.trans (by rw [hl4]))
        have HLA := Lib.hid (HLA.out.beside HLB.out hg (HNE.out))
        have HKF := Lib.hid (HKF.out.beside hg (by have := HNF.out.2.1; simpa using this))
        have HKX := Lib.hid (HKX.out.beside hg (by have := HNX.out.2; simpa using this))
        have HB := Lib.hid (below_gb HB.out hg HB.out.size (fun i h => by injection h with h; rw [← h]; exact HS2.out))
        have HLB := Lib.hid L
        clear L hg hl4
        rcases HC.out with hc | hc
        · have hD : D = (N : Int) + 2 := hc.1
          have HR2 : Hid (spRun .zero (l.take (i + 1)) = some ⟨N + 3, t.st, behL (behL (behL E a) N) (N + 1), behL (behL (behL H a) a) N⟩) := Lib.hid (by
            rw [HT.out]
            obtain ⟨-, o1, o2, o3⟩ := hc
            obtain ⟨tn, ts, tE, tH⟩ := t
            dsimp only at o1 o2 o3 ⊢
            rw [o1, o2, o3])
          clear hc
          subst hD
          have wN2 : IntKind.i64.wrap ((N : Int) + 2) = N + 2 := by rw [IntKind.wrap_i64]; omega
          have wN1 : IntKind.i64.wrap ((N : Int) + 1) = N + 1 := by rw [IntKind.wrap_i64]; omega
          have wN3 : IntKind.i64.wrap ((N : Int) + 1 + 2) = N + 3 := by rw [IntKind.wrap_i64]; omega
          have wN4 : IntKind.i64.wrap ((N : Int) + 3) = N + 3 := by rw [IntKind.wrap_i64]; omega
          have f0 := HKF.out.cell 0
          have f1 := HKF.out.cell 1
          have fl := HKF.out.lt
          have x0 := HKX.out.cell 0
          have x1 := HKX.out.cell 1
          have x2 := HKX.out.cell 2
          have x3 := HKX.out.cell 3
          have x4 := HKX.out.cell 4
          have xl := HKX.out.lt
          go_wp2_with fail
          clear f0 f1 fl x0 x1 x2 x3 x4 xl
          have hl5 : (behL (behL E a) N).length = N + 1 + 1 := HQ2.out
          refine (lineBehind_any (behL (behL E a) N) b1 (N + 1) (by rw [hl5]; omega) (by rw [hl5]; omega) _ HLA.out).mono ?_
          rintro e wc5 ⟨rfl, L, hg⟩
          have HQ5 : Hid ((behL (behL (behL E a) N) (N + 1)).length = N + 1 + 1 + 1) := Lib.hid ((beh_all HLA.out.rt (by rw [hl5]; omega) (by rw [hl5]; omega)).2.1.trans (by rw [hl5]))
          have HLB := Lib.hid (HLB.out.beside HLA.out hg (HNE.out.symm))
          have HKF := Lib.hid (HKF.out.beside hg (by have := HNF.out.1; simpa using this))
          have HKX := Lib.hid (HKX.out.beside hg (by have := HNX.out.1; simpa using this))
          have HB := Lib.hid (below_gb HB.out hg HB.out.size (fun i h => by injection h with h; rw [← h]; exact HS1.out))
          have HLA := Lib.hid L
          clear L hg hl5
          have f0 := HKF.out.cell 0
          have f1 := HKF.out.cell 1
          have fl := HKF.out.lt
          have x0 := HKX.out.cell 0
          have x1 := HKX.out.cell 1
          have x2 := HKX.out.cell 2
          have x3 := HKX.out.cell 3
          have x4 := HKX.out.cell 4
          have xl := HKX.out.lt
          go_wp2_with fail
          clear f0 f1 fl x0 x1 x2 x3 x4 xl
          have hl6 : (behL (behL H a) a).length = N + 1 + 1 := HQ4.out
          refine (lineBehind_any (behL (behL H a) a) b2 (N) (by rw [hl6]; omega) (by rw [hl6]; omega) _ HLB.out).mono ?_
          rintro e wc6 ⟨rfl, L, hg⟩
          have HQ6 : Hid ((behL (behL (behL H a) a) (N)).length = N + 1 + 1 + 1) := Lib.hid ((beh_all HLB.out.rt (by rw [hl6]; omega) (by rw [hl6]; omega)).2.1.trans (by rw [hl6]))
          have HLA := Lib.hid (HLA.out.beside HLB.out hg (HNE.out))
          have HKF := Lib.hid (HKF.out.beside hg (by have := HNF.out.2.1; simpa using this))
          have HKX := Lib.hid (HKX.out.beside hg (by have := HNX.out.2; simpa using this))
          have HB := Lib.hid (below_gb HB.out hg HB.out.size (fun i h => by injection h with h; rw [← h]; exact HS2.out))
          have HLB := Lib.hid L
          clear L hg hl6
          go_wp2_with fail
          go_roundw
          case rel => exact ⟨i + 1, N + 3, _, _, _, by simp, by omega, by simp, _, rfl, HR2, HLA, HLB, HKF, HB⟩
          case measure => simp [intOf]; omega
        · have HR2 : Hid (spRun .zero (l.take (i + 1)) = some ⟨N + 2, t.st, behL (behL E a) N, behL (behL H a) a⟩) := Lib.hid (by
            rw [HT.out]
            obtain ⟨-, o1, o2, o3⟩ := hc
            obtain ⟨tn, ts, tE, tH⟩ := t
            dsimp only at o1 o2 o3 ⊢
            rw [o1, o2, o3])
          have d1 : (D == (N : Int) + 2) = false := by simp [hc.1]
          have d2 : decide (D = (N : Int) + 2) = false := by simp [hc.1]
          clear hc
          have wN2 : IntKind.i64.wrap ((N : Int) + 2) = N + 2 := by rw [IntKind.wrap_i64]; omega
          have f0 := HKF.out.cell 0
          have f1 := HKF.out.cell 1
          have fl := HKF.out.lt
          have x0 := HKX.out.cell 0
          have x1 := HKX.out.cell 1
          have x2 := HKX.out.cell 2
          have x3 := HKX.out.cell 3
          have x4 := HKX.out.cell 4
          have xl := HKX.out.lt
          go_wp2_with fail
          go_roundw
          case rel => exact ⟨i + 1, N + 2, _, _, _, by simp, by omega, by simp, _, rfl, HR2, HLA, HLB, HKF, HB⟩
          case measure => simp [intOf]; omega
      · have k1 : (kd == 1) = false := by simp [hk1]
        have k2 : (kd != 1) = true := by simp [hk1]
        have HO := Lib.hid (step_other HX.out hk1)
        have HR2 : Hid (spRun .zero (l.take (i + 1)) = some ⟨N, t.st, E, H⟩) := Lib.hid (by
          rw [HT.out]
          obtain ⟨o1, o2, o3⟩ := HO.out
          obtain ⟨tn, ts, tE, tH⟩ := t
          dsimp only at o1 o2 o3 ⊢
          rw [o1, o2, o3])
        clear hk1
        go_wp2_with fail
        rw [← HV1.out]
        go_roundw
        case rel => exact ⟨i + 1, N, _, _, _, by simp, by omega, rfl, _, rfl, HR2, HLA, HLB, HKF, HB⟩
        case measure => simp [intOf]; omega
    · obtain rfl : i = n := by omega
      obtain rfl : s = ⟨N, st, E, H⟩ := by
        have := HR.out
        rw [HF.out, HRUN.out] at this
        exact Option.some.inj this
      have hmk := fun wx => make_pairs N (by omega) wx
      obtain ⟨V5, hV5⟩ : ∃ V5, V5 = wr.alloc (Obj.cells (madeCells #[Value.int .i64 0, .int .i64 0] (N * 2)) 34) := ⟨_, rfl⟩
      have hbv : Below wr.heap.size wr V5 := by rw [hV5]; exact below_alloc1 _ _
      have HP : Hid (Prs V5 wr.heap.size 34 N (fun _ => 0) (fun _ => 0)) := Lib.hid (by rw [hV5]; exact Prs.made _ _ _)
      have HGW : Hid (w.heap.size ≤ wr.heap.size) := Lib.hid HB.out.size
      have HLA := Lib.hid (HLA.out.later hbv)
      have HLB := Lib.hid (HLB.out.later hbv)
      have HB := Lib.hid (HB.out.trans (hbv.mono HB.out.size))
      have HLEN : Hid (E.length = N ∧ H.length = N) := Lib.hid ⟨HOK.out.le, HOK.out.lh⟩
      have HV5 := Lib.hid hV5
      clear hV5 hbv HKF HS HN
      go_wp2_with fail
      rw [← HV5.out]
      obtain ⟨go, hgo⟩ : ∃ g, g = wr.heap.size := ⟨_, rfl⟩
      rw [← hgo] at HP HGW ⊢
      clear hgo HV5 hmk
      have HRA := Lib.hid (lineRow_any E b1 V5 HLA.out)
      rw [HLEN.out.1] at HRA
      refine HRA.out.mono ?_
      rintro e w6 ⟨gr0, r0, rfl, hr0, n0, hge0, hb6⟩
      have HRW0 := Lib.hid hr0
      have HN0 := Lib.hid n0
      have HG0 : Hid (gr0 ≠ go) := Lib.hid (by have := HP.out.lt; omega)
      have HP := Lib.hid (HP.out.later hb6)
      have HLB := Lib.hid (HLB.out.later hb6)
      have HB := Lib.hid (HB.out.trans (hb6.mono HB.out.size))
      clear hr0 n0 hge0 hb6 HRA HLA
      go_wp2_with fail
      have HRB := Lib.hid (lineRow_any H b2 w6 HLB.out)
      rw [HLEN.out.2] at HRB
      refine HRB.out.mono ?_
      rintro e w7 ⟨gr1, r1, rfl, hr1, n1, hge1, hb7⟩
      have HRW1 := Lib.hid hr1
      have HN1 := Lib.hid n1
      have HGO : Hid (gr0 ≠ go ∧ gr1 ≠ go ∧ w.heap.size ≤ go) := Lib.hid ⟨HG0.out, by have := HP.out.lt; omega, HGW.out⟩
      have HP := Lib.hid (HP.out.later hb7)
      have HN0 := Lib.hid (HN0.out.later hb7)
      have HB := Lib.hid (HB.out.trans (hb7.mono HB.out.size))
      clear hr1 n1 hge1 hb7 HRB HLB HG0 HGW
      go_wp2_with fail
      go_loopw [81] (fun vi wr => ∃ (q : Nat) (f0 f1 : Nat → Int), vi = .int .i64 q ∧ q ≤ 2 ∧ ∃ W', W' = wr ∧ Hid (Prs W' go 34 N f0 f1) ∧ Hid (1 ≤ q → Upto r0 N f0) ∧ Hid (2 ≤ q → Upto r1 N f1) ∧ Hid (Nums W' (some ⟨gr0, 0, none⟩) N (r0.map Int.ofNat)) ∧ Hid (Nums W' (some ⟨gr1, 0, none⟩) N (r1.map Int.ofNat)) ∧ Hid (Below w.heap.size w W')) (fun vi _ => 2 - (intOf vi).toNat)
      case atStart => exact ⟨0, _, _, rfl, by omega, _, rfl, HP, Lib.hid (fun h => absurd h (by decide)), Lib.hid (fun h => absurd h (by decide)), HN0, HN1, HB⟩
      case round =>
        clear HP HN0 HN1 HB
        obtain ⟨q, f0, f1, rfl, hq, wr, rfl, HP, HU0, HU1, HN0, HN1, HB⟩ := hrel
        have hq3 : q = 0 ∨ q = 1 ∨ q = 2 := by omega
        have hix0 := ridx0
        have hix1 := ridx1
        rcases hq3 with rfl | rfl | rfl
        · go_wp2_with fail
          go_loopw [87] (fun vi wr => ∃ (i : Nat) (f : Nat → Int), vi = .int .i64 i ∧ i ≤ N ∧ ∃ W', W' = wr ∧ Hid (Prs W' go 34 N f f1) ∧ Hid (Upto r0 i f) ∧ Hid (Nums W' (some ⟨gr0, 0, none⟩) N (r0.map Int.ofNat)) ∧ Hid (Nums W' (some ⟨gr1, 0, none⟩) N (r1.map Int.ofNat)) ∧ Hid (Below w.heap.size w W')) (fun vi _ => N - (intOf vi).toNat)
          case atStart => exact ⟨0, f0, rfl, Nat.zero_le _, _, rfl, HP, Lib.hid (Upto.zero _ _), HN0, HN1, HB⟩
          case round =>
            clear HP HN0 HN1 HB
            obtain ⟨i, f, rfl, hi, wr, rfl, HP, HU, HN0, HN1, HB⟩ := hrel
            by_cases hlt : i < N
            · obtain ⟨x, hx⟩ : ∃ x, r0.getD i 0 = x := ⟨_, rfl⟩
              have hrl : i < r0.length := by rw [HRW0.out.len, HLEN.out.1]; exact hlt
              have hxN : x < N := by
                rw [← hx, List.getD_eq_getElem?_getD, List.getElem?_eq_getElem hrl]
                have := HRW0.out.lt i hrl
                rw [HLEN.out.1] at this
                exact this
              have c0 : wr.cell? ⟨gr0, i, none⟩ = some (.int .i64 (x : Int)) := by
                have h := (HN0.out.got i (Int.ofNat x) (by rw [← hx, List.getD_eq_getElem?_getD, List.getElem?_map, List.getElem?_eq_getElem hrl]; rfl)).2
                exact h
              obtain ⟨⟨p0, p1⟩, q0, q1⟩ := HP.out.cells x hxN
              have HP2 : Hid (Prs (wr.setCell ⟨go, x * 2, none⟩ (.int .i64 (i : Int))) go 34 N (fun y => if y = x then (i : Int) else f y) f1) := Lib.hid (HP.out.put0 x (i : Int))
              have HU2 : Hid (Upto r0 (i + 1) (fun y => if y = x then (i : Int) else f y)) := Lib.hid (by have := HU.out.put HRW0.out.nodup hrl; rwa [hx] at this)
              have HN02 : Hid (Nums (wr.setCell ⟨go, x * 2, none⟩ (.int .i64 (i : Int))) (some ⟨gr0, 0, none⟩) N (r0.map Int.ofNat)) := Lib.hid (HN0.out.far _ _ _ (fun _ b off e => by injection e with e; injection e with e1; rw [← e1]; exact HGO.out.1))
              have HN12 : Hid (Nums (wr.setCell ⟨go, x * 2, none⟩ (.int .i64 (i : Int))) (some ⟨gr1, 0, none⟩) N (r1.map Int.ofNat)) := Lib.hid (HN1.out.far _ _ _ (fun _ b off e => by injection e with e; injection e with e1; rw [← e1]; exact HGO.out.2.1))
              have HB2 : Hid (Below w.heap.size w (wr.setCell ⟨go, x * 2, none⟩ (.int .i64 (i : Int)))) := Lib.hid (HB.out.setCell HGO.out.2.2 _)
              clear hx hrl
              go_wp2_with fail
              go_roundw
              case rel => exact ⟨i + 1, _, by simp, by omega, _, rfl, HP2, HU2, HN02, HN12, HB2⟩
              case measure => simp [intOf]; omega
            · obtain rfl : i = N := by omega
              go_wp2_with fail
              go_roundw
              case rel => exact ⟨0 + 1, _, _, by simp, by omega, _, rfl, HP, Lib.hid (fun _ => HU.out), Lib.hid (fun h => absurd h (by decide)), HN0, HN1, HB⟩
              case measure => simp [intOf]
        · go_wp2_with fail
          go_loopw [87] (fun vi wr => ∃ (i : Nat) (f : Nat → Int), vi = .int .i64 i ∧ i ≤ N ∧ ∃ W', W' = wr ∧ Hid (Prs W' go 34 N f0 f) ∧ Hid (Upto r1 i f) ∧ Hid (Nums W' (some ⟨gr0, 0, none⟩) N (r0.map Int.ofNat)) ∧ Hid (Nums W' (some ⟨gr1, 0, none⟩) N (r1.map Int.ofNat)) ∧ Hid (Below w.heap.size w W')) (fun vi _ => N - (intOf vi).toNat)
          case atStart => exact ⟨0, f1, rfl, Nat.zero_le _, _, rfl, HP, Lib.hid (Upto.zero _ _), HN0, HN1, HB⟩
          case round =>
            clear HP HN0 HN1 HB
            obtain ⟨i, f, rfl, hi, wr, rfl, HP, HU, HN0, HN1, HB⟩ := hrel
            by_cases hlt : i < N
            · obtain ⟨x, hx⟩ : ∃ x, r1.getD i 0 = x := ⟨_, rfl⟩
              have hrl : i < r1.length := by rw [HRW1.out.len, HLEN.out.2]; exact hlt
              have hxN : x < N := by
                rw [← hx, List.getD_eq_getElem?_getD, List.getElem?_eq_getElem hrl]
                have := HRW1.out.lt i hrl
                rw [HLEN.out.2] at this
                exact this
              have c0 : wr.cell? ⟨gr1, i, none⟩ = some (.int .i64 (x : Int)) := by
                have h := (HN1.out.got i (Int.ofNat x) (by rw [← hx, List.getD_eq_getElem?_getD, List.getElem?_map, List.getElem?_eq_getElem hrl]; rfl)).2
                exact h
              obtain ⟨⟨p0, p1⟩, q0, q1⟩ := HP.out.cells x hxN
              have HP2 : Hid (Prs (wr.setCell ⟨go, x * 2 + 1, none⟩ (.int .i64 (i : Int))) go 34 N f0 (fun y => if y = x then (i : Int) else f y)) := Lib.hid (HP.out.put1 x (i : Int))
              have HU2 : Hid (Upto r1 (i + 1) (fun y => if y = x then (i : Int) else f y)) := Lib.hid (by have := HU.out.put HRW1.out.nodup hrl; rwa [hx] at this)
              have HN02 : Hid (Nums (wr.setCell ⟨go, x * 2 + 1, none⟩ (.int .i64 (i : Int))) (some ⟨gr0, 0, none⟩) N (r0.map Int.ofNat)) := Lib.hid (HN0.out.far _ _ _ (fun _ b off e => by injection e with e; injection e with e1; rw [← e1]; exact HGO.out.1))
              have HN12 : Hid (Nums (wr.setCell ⟨go, x * 2 + 1, none⟩ (.int .i64 (i : Int))) (some ⟨gr1, 0, none⟩) N (r1.map Int.ofNat)) := Lib.hid (HN1.out.far _ _ _ (fun _ b off e => by injection e with e; injection e with e1; rw [← e1]; exact HGO.out.2.1))
              have HB2 : Hid (Below w.heap.size w (wr.setCell ⟨go, x * 2 + 1, none⟩ (.int .i64 (i : Int)))) := Lib.hid (HB.out.setCell HGO.out.2.2 _)
              clear hx hrl
              go_wp2_with fail
              go_roundw
              case rel => exact ⟨i + 1, _, by simp, by omega, _, rfl, HP2, HU2, HN02, HN12, HB2⟩
              case measure => simp [intOf]; omega
            · obtain rfl : i = N := by omega
              go_wp2_with fail
              go_roundw
              case rel => exact ⟨1 + 1, _, _, by simp, by omega, _, rfl, HP, Lib.hid (fun _ => HU0.out (by decide)), Lib.hid (fun _ => HU.out), HN0, HN1, HB⟩
              case measure => simp [intOf]
        · have HFP : Hid (Pls wr (some ⟨go, 0, none⟩) (placesOf ⟨N, st, E, H⟩)) := Lib.hid (HP.out.pls (fun x hx => (show Upto r0 E.length f0 by rw [HLEN.out.1]; exact HU0.out (by decide)).all HRW0.out x (by rw [HLEN.out.1]; exact hx)) (fun x hx => (show Upto r1 H.length f1 by rw [HLEN.out.2]; exact HU1.out (by decide)).all HRW1.out x (by rw [HLEN.out.2]; exact hx)))
          go_wp2_with fail
          exact bodyPost_ret (v := .tuple #[.slice (some ⟨go, 0, none⟩) N N, .int .i64 0]) (by simp [results, Try.results9, go_sem]) rfl ⟨go, rfl, HGO.out.2.2, HFP.out, HB.out⟩
end Go.Proofs.Ytjpimaiogdckpaa
