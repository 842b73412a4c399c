/-
  OM: the law OmSeldom.
-/
import Derived.Test.YtpikiehipeecoaaWOmFull
import Derived.Test.YtpikiehipeecoaaAfter
import Derived.RangeFuncBox
import Derived.Maps.AppendAt
namespace Go.Proofs.Ytpikiehipeecoaa
open Go.ChangeShapes Go.WideShapes Go.ChangeAt Go.RowKit Go.Sort

/-- labels of which each two are so far apart: behind j more of n -/
structure Sel (j n : Nat) (L : List Int) : Prop where
  len : L.length = n + j
  lo : ∀ y ∈ L, 0 ≤ y
  hi : ∀ y ∈ L, y ≤ 1048576 * ((n : Int) + (j : Int))
  gap : ∀ i k, i < L.length → k < L.length → i ≠ k → L.getD i 0 + ((2 ^ (20 - j) : Nat) : Int) ≤ L.getD k 0 ∨ L.getD k 0 + ((2 ^ (20 - j) : Nat) : Int) ≤ L.getD i 0
theorem Sel.rt {j n : Nat} {L : List Int} (h : Sel j n L) (h1 : 1 ≤ n) (hn : n ≤ 40) (hj : j ≤ 19) : Rt L := by
  have hp : 0 < 2 ^ (20 - j) := Nat.pow_pos (by omega)
  refine ⟨by rw [h.len]; omega, by rw [h.len]; omega, fun y hy => ⟨h.lo y hy, ?_⟩, nodup_of_getD fun i k hi hk hik => ?_⟩
  · have := h.hi y hy; omega
  · have := h.gap i k hi hk (by omega)
    omega
theorem Sel.start (n : Nat) : Sel 0 n (mulL 1048576 n) := by
  refine ⟨by rw [mulL_len]; omega, fun y hy => ?_, fun y hy => ?_, fun i k hi hk hik => ?_⟩
  · obtain ⟨i, hi, rfl⟩ := mem_getD hy
    rw [mulL_len] at hi; rw [mulL_at _ _ _ hi]; omega
  · obtain ⟨i, hi, rfl⟩ := mem_getD hy
    rw [mulL_len] at hi; rw [mulL_at _ _ _ hi]; omega
  · rw [mulL_len] at hi hk
    rw [mulL_at _ _ _ hi, mulL_at _ _ _ hk]
    have : ((2 ^ (20 - 0) : Nat) : Int) = 1048576 := by decide
    rw [this]
    rcases Nat.lt_or_ge i k with h | h
    · left; omega
    · right; omega
theorem Sel.step {j n : Nat} {L : List Int} (h : Sel j n L) (h1 : 1 ≤ n) (hn : n ≤ 40) (hj : j < 19) (x : Nat) (hx : x < L.length) : ∃ c, behL L x = L ++ [c] ∧ Sel (j + 1) n (L ++ [c]) := by
  have hrt := h.rt h1 hn (by omega)
  obtain ⟨e, he⟩ : ∃ e, 2 ^ (19 - (j + 1)) = e := ⟨_, rfl⟩
  have hep : 0 < e := by rw [← he]; exact Nat.pow_pos (by omega)
  have hh : 2 ^ (20 - (j + 1)) = 2 * e := by rw [← he, show 20 - (j + 1) = (19 - (j + 1)) + 1 by omega, Nat.pow_succ]; omega
  have hg : 2 ^ (20 - j) = 2 * (2 * e) := by rw [show 20 - j = (20 - (j + 1)) + 1 by omega, Nat.pow_succ, hh]; omega
  have hgap := h.gap
  rw [hg] at hgap
  have hok := abv_ok L (L.getD x 0)
  obtain ⟨a, ha⟩ : ∃ a, L.getD x 0 = a := ⟨_, rfl⟩
  have ham := getD_mem hx
  rw [ha] at hok ham
  have ha0 := h.lo a ham
  have ha1 := h.hi a ham
  obtain ⟨b, hb⟩ : ∃ b, abL L a = b := ⟨_, rfl⟩
  have hbb : a + 4 * (e : Int) ≤ b ∧ b ≤ 1048576 * ((n : Int) + (j : Int)) + 2097152 ∧ (∀ y ∈ L, y ≤ a ∨ b ≤ y) ∧ a + (b - a) / 2 ≤ 1048576 * ((n : Int) + (j : Int)) + 1048576 := by
    unfold abL at hb
    cases ho : abv L a with
    | none =>
      rw [ho] at hb hok
      simp only [Option.getD_none] at hb
      have h2e : 4 * e ≤ 2 ^ 20 := by have : 2 ^ (20 - j) ≤ 2 ^ 20 := Nat.pow_le_pow_right (by omega) (by omega); omega
      have : (2 : Nat) ^ 20 = 1048576 := by decide
      exact ⟨by omega, by omega, fun y hy => .inl (hok y hy), by omega⟩
    | some z =>
      rw [ho] at hb hok
      simp only [Option.getD_some] at hb
      obtain ⟨k1, k2, k3⟩ := hok
      obtain ⟨i, hi, hiz⟩ := mem_getD k1
      have hne : x ≠ i := fun hxi => by rw [← hxi, ha] at hiz; omega
      have hgp := hgap x i hx hi hne
      rw [ha, hiz] at hgp
      have hz1 := h.hi z k1
      refine ⟨by omega, by omega, fun y hy => ?_, by omega⟩
      by_cases hay : a < y
      · right; have := k3 y hy hay; omega
      · left; omega
  obtain ⟨b1, b2, b3, b4⟩ := hbb
  have hnt : ¬ tight a b := by unfold tight; omega
  refine ⟨halfway a b, by unfold behL; rw [ha, hb, if_neg hnt], ?_⟩
  obtain ⟨c, hc⟩ : ∃ c, halfway a b = c := ⟨_, rfl⟩
  rw [hc]
  unfold halfway at hc
  have hcl : a + 2 * (e : Int) ≤ c := by omega
  have hcu : c + 2 * (e : Int) ≤ b := by omega
  refine ⟨by simp [h.len]; omega, fun y hy => ?_, fun y hy => ?_, fun i k hi hk hik => ?_⟩
  · rcases List.mem_append.1 hy with hy | hy
    · exact h.lo y hy
    · simp at hy; omega
  · rcases List.mem_append.1 hy with hy | hy
    · have := h.hi y hy; omega
    · simp at hy; omega
  · rw [hh]
    have hL : (L ++ [c]).length = L.length + 1 := by simp
    rw [hL] at hi hk
    by_cases h1 : i < L.length
    · rw [getD_snoc L c i h1]
      by_cases h2 : k < L.length
      · rw [getD_snoc L c k h2]
        have := hgap i k h1 h2 hik
        omega
      · have hk2 : k = L.length := by omega
        rw [hk2, getD_end]
        have := b3 _ (getD_mem h1)
        omega
    · have hi2 : i = L.length := by omega
      have h2 : k < L.length := by omega
      rw [hi2, getD_end, getD_snoc L c k h2]
      have := b3 _ (getD_mem h2)
      omega
set_option maxRecDepth 100000 in
set_option maxHeartbeats 8000000 in
theorem walkOmSeldom (a : Int) (pl : Option Addr) (len cl : Nat) (zl : List Int) (w : World) (ha : 0 ≤ a ∧ a ≤ 255) (wl : IsRow .u8 w pl len cl zl) :
    Calls Try.prog 6 #[.int .u8 a, .slice pl len cl] w fun e w' => e = .returned (.bool true) ∧ Below w.heap.size w w' := by
  obtain ⟨i0, hi0, hz0, hz1, hz2⟩ := info_parts intInfo
  have hB := Below.refl w.heap.size w
  obtain ⟨hlm, hro⟩ := wl.opened
  have HRW : Hid (∀ wx, Below w.heap.size w wx → ∀ i, i < len → ∃ b off v, pl = some ⟨b, off, none⟩ ∧ wx.cell? ⟨b, off + i, none⟩ = some (.int .u8 v) ∧ 0 ≤ v ∧ v ≤ 255) := Lib.hid fun wx hx i hi => by
    rcases hro with h0 | ⟨b, off, h1, h2⟩
    · omega
    · have h3 := (h2.later hx).2 i hi
      exact ⟨b, off, _, h1, h3.1, (u8_bd h3.2).1, (u8_bd h3.2).2⟩
  clear hro wl zl hlm
  obtain ⟨m, hm⟩ : ∃ m, Int.tmod a 40 = m := ⟨_, rfl⟩
  have hm0 : 0 ≤ m ∧ m ≤ 39 := by rw [Int.tmod_eq_emod_of_nonneg ha.1] at hm; omega
  obtain ⟨N, hN⟩ : ∃ N : Nat, (1 : Int) + m = (N : Int) := ⟨(1 + m).toNat, by omega⟩
  have wm : IntKind.i64.wrap m = m := by rw [IntKind.wrap_i64]; omega
  have wN : IntKind.i64.wrap (N : Int) = N := by rw [IntKind.wrap_i64]; omega
  have hN0 : 1 ≤ N ∧ N ≤ 40 := by omega
  clear hm0
  go_enter Try.func6, Try.ntmps6
  have HhB := Lib.hid hB
  clear  hB
  go_wp2_with fail
  have hB := HhB.out
  clear  HhB
  refine (shown_any _).mono ?_
  rintro e w1 ⟨rfl, hb⟩
  replace hB := hB.trans (hb.mono hB.size)
  clear hb
  have HW1 : Hid (w.heap.size ≤ w1.heap.size) := Lib.hid hB.size
  by_cases h19 : 19 < len
  · have d1 : decide (19 < (len : Int)) = true := by simp; omega
    have HhB := Lib.hid hB
    clear  hB
    go_wp2_with fail
    have hB := HhB.out
    clear  HhB
    go_ret
    exact ⟨rfl, hB⟩
  have d1 : decide (19 < (len : Int)) = false := by simp; omega
  have bO := Boxed.new w1 26 (.slice none 0 0)
  have hbO : Below w1.heap.size w1 (w1.alloc (.cells #[.slice none 0 0] 26)) := (Below.refl _ w1).alloc (Nat.le_refl _) _
  have HhB := Lib.hid hB
  clear hB
  go_wp2_with fail
  go_loopw [8] (fun vi wr => ∃ i : Nat, vi = .int .i64 i ∧ i ≤ N ∧ ∃ W', W' = wr ∧ ∃ v, Hid (Boxed W' w1.heap.size 26 v) ∧ Hid (W'.ownsRow w1.heap.size 3 1 v i ((mulL 1048576 i).map (Value.int .i64))) ∧ Hid (Below w1.heap.size w1 W')) (fun vi _ => N - (intOf vi).toNat)
  case atStart => exact ⟨0, rfl, by omega, _, rfl, _, Lib.hid bO, Lib.hid (by rw [show (mulL 1048576 0).map (Value.int .i64) = [] from rfl]; exact World.ownsRow_nil _ _ _ _), Lib.hid hbO⟩
  case round =>
    clear bO hbO
    obtain ⟨i, rfl, hi, wr, rfl, v, HBX, HRO, HBE⟩ := hrel
    by_cases hlt : i < N
    · have r1 : decide ((i : Int) < (N : Int)) = true := by simp; omega
      obtain ⟨s, hs⟩ : ∃ s, 1048576 * (i : Int) = s := ⟨_, rfl⟩
      have ws : IntKind.i64.wrap s = s := by rw [IntKind.wrap_i64]; omega
      have HS := Lib.hid hs
      have hc := HBX.out.cell
      have hsz := HBE.out.size
      go_wp2_with (at_builtin; refine wpList_append_own _ rfl (.tmp 31) (.tmp 34) _ rfl w1.heap.size 3 i0 (.int .i64 0) 1 8 Try.underlying24 hi0 hz0 hz1 hz2 rfl (by decide) _ i _ rfl (HRO.out.alloc _) ⟨wr.heap.size, 0, none⟩ 1 1 [.int .i64 s] rfl rfl (cell_one_new _ _ _) (by simp [Value.oneCell']) (by unfold maxLen; omega) (by omega) (by simp; omega) ?_; intro v' w9 hown' hgrow _; obtain ⟨g', cap', rfl⟩ := ownsRow_succ hown'; obtain ⟨hv1, hv2, hr2, -, hb2⟩ := HBX.out.appended (by decide) HRO.out HBE.out.size (Nat.le_refl _) hown' hgrow; have hc1 := hv1.cell; have hf1 := hv1.frozen)
      have HBX2 := Lib.hid hv2
      have HRO2 : Hid (World.ownsRow _ w1.heap.size 3 1 (.slice (some ⟨g', 0, none⟩) (i + 1) cap') (i + 1) ((mulL 1048576 (i + 1)).map (Value.int .i64))) := Lib.hid (by rw [mulL_snoc, HS.out]; simpa using hr2)
      have HBE2 := Lib.hid (HBE.out.trans hb2)
      clear hv1 hv2 hr2 hb2 hc1 hf1 hown' hgrow hc hs r1
      go_roundw
      case rel => exact ⟨i + 1, by simp, by omega, _, rfl, _, HBX2, HRO2, HBE2⟩
      case measure => simp [intOf]; omega
    have r1 : decide ((i : Int) < (N : Int)) = false := by simp; omega
    obtain rfl : i = N := by omega
    obtain ⟨p0, cap0, rfl⟩ : ∃ p cap, v = .slice p i cap := by
      rcases HRO.out.2 with ⟨h1, h2⟩ | ⟨g8, c8, u8, h1, _⟩
      · exact ⟨none, 0, by rw [h1, h2]⟩
      · exact ⟨_, _, h1⟩
    have N0 := (Nums.of_own HRO.out).1
    have KO : Blk wr w1.heap.size 26 #[.slice p0 i cap0] := HBX.out
    have hB := HhB.out.trans (HBE.out.mono HhB.out.size)
    clear HBX HRO HBE HhB hlt
    have HKO := Lib.hid KO
    have HN0 := Lib.hid N0
    have HhB := Lib.hid hB
    have HSL : Hid (Sel 0 i (mulL 1048576 i)) := Lib.hid (Sel.start i)
    have HLE : Hid ((mulL 1048576 i).length = i) := Lib.hid (mulL_len _ i)
    clear KO N0 hB
    go_wp2_with fail
    obtain ⟨n, hn⟩ : ∃ n, i = n := ⟨_, rfl⟩
    rw [hn] at HKO HN0 HSL HLE hN0 ⊢
    clear hn r1 hi hN wN
    go_loopw [9] (fun vi wq => ∃ j : Nat, vi = .int .i64 j ∧ j ≤ len ∧ ∃ W', W' = wq ∧ ∃ (q : Option Addr) (mm cap : Nat) (L : List Int), Hid (Blk W' w1.heap.size 26 #[.slice q mm cap]) ∧ Hid (Nums W' q cap L) ∧ Hid (L.length = mm) ∧ Hid (Sel j n L) ∧ Hid (Below w.heap.size w W')) (fun vi _ => len - (intOf vi).toNat)
    case atStart => exact ⟨0, rfl, by omega, _, rfl, _, _, _, _, HKO, HN0, HLE, HSL, HhB⟩
    case round =>
      clear HKO HN0 HLE HSL HhB
      obtain ⟨j, rfl, hj, wq, rfl, q, mm, cap, L, HKO, HN0, HLE, HSL, HhB⟩ := hrel
      by_cases hjt : j < len
      · have hmm : mm = n + j := by have h1 := HSL.out.len; have h2 := HLE.out; omega
        have hmb : 1 ≤ mm ∧ mm ≤ 58 := by omega
        have s1 : decide ((j : Int) < (len : Int)) = true := by simp; omega
        obtain ⟨b, off, v, rfl, cv, hv0, hv1⟩ := HRW.out wq HhB.out j hjt
        obtain ⟨x, hx⟩ : ∃ x : Nat, Int.tmod v mm = (x : Int) := ⟨(Int.tmod v mm).toNat, by rw [Int.tmod_eq_emod_of_nonneg hv0]; have := Int.emod_nonneg v (show (mm : Int) ≠ 0 by omega); omega⟩
        have hxn : x < mm := by rw [Int.tmod_eq_emod_of_nonneg hv0] at hx; have := Int.emod_lt_of_pos v (show (0 : Int) < mm by omega); omega
        have wx : IntKind.i64.wrap (x : Int) = x := by rw [IntKind.wrap_i64]; omega
        have wv : IntKind.i64.wrap v = v := by rw [IntKind.wrap_i64]; omega
        have in0 : ¬ mm = 0 := by omega
        have nz : (mm : Int) ≠ 0 := by omega
        have nz2 : ((mm : Int) == 0) = false := by simp; omega
        have j0 : (0 : Int) ≤ j := by omega
        have j1 : (j : Int) < len := by omega
        have HMM := Lib.hid hmm
        clear hmm
        have o0 := HKO.out.cell 0
        have ol := HKO.out.lt
        go_wp2_with fail
        go_quiet (fail)
        go_wp2_with fail
        have KO := (HKO.out).drawn nq
        have N0 := (HN0.out).drawn nq
        have hB := bel_drewN HhB.out nq
        clear HKO HN0 HhB o0 ol cv s1
        obtain ⟨c, hbe, hsel⟩ := HSL.out.step (by omega) (by omega) (by omega) x (by rw [HLE.out]; exact hxn)
        have HRT : Hid (Rt L) := Lib.hid (HSL.out.rt (by omega) (by omega) (by omega))
        obtain ⟨m1, hm1⟩ : ∃ q, mm + 1 = q := ⟨_, rfl⟩
        have em1 : (mm : Int) + 1 = (m1 : Int) := by omega
        have wm1 : IntKind.i64.wrap (m1 : Int) = m1 := by rw [IntKind.wrap_i64]; omega
        have HSEL := Lib.hid hsel
        have HM1 := Lib.hid hm1
        have hm1n : m1 ≤ 59 := by omega
        have hmm1 : mm < m1 := by omega
        clear hm1 hsel
        refine (behind_at L (L ++ [c]) mm m1 x x mm HLE.out HRT.out (by omega) hxn HM1.out rfl rfl hbe _ _ _ N0).mono ?_
        rintro e w2 ⟨q2, c2, rfl, N1, hb⟩
        replace KO := KO.later hb
        replace N0 := N0.later hb
        replace hB := hB.trans (hb.mono hB.size)
        clear hb
        clear hbe
        obtain ⟨V2, hV⟩ : ∃ V, V = w2.alloc (Obj.cells #[.slice q2 m1 c2] 26) := ⟨_, rfl⟩
        have KA : Blk V2 w2.heap.size 26 #[.slice q2 m1 c2] := by rw [hV]; exact Blk.made _ _ _
        have hbv : Below w2.heap.size w2 V2 := by rw [hV]; exact below_alloc1 _ _
        replace KO := KO.later hbv
        replace N0 := N0.later hbv
        replace N1 := N1.later hbv
        replace hB := hB.trans (hbv.mono hB.size)
        clear hbv
        have HV := Lib.hid hV
        clear hV
        have a0 : World.cell? _ ⟨w2.heap.size, 0, none⟩ = some (.slice q2 m1 c2) := KA.cell 0
        have al := KA.lt
        have o0 : World.cell? _ ⟨w1.heap.size, 0, none⟩ = some (.slice q mm cap) := KO.cell 0
        have ol := KO.lt
        rw [HV.out] at a0 al o0 ol
        have HKO := Lib.hid KO
        have HN0 := Lib.hid N0
        have HN1 := Lib.hid N1
        have HKA := Lib.hid KA
        have HhB := Lib.hid hB
        clear KO N0 N1 KA hB
        go_wp2_with fail
        clear a0 al o0 ol
        have KO := HKO.out
        have N0 := HN0.out
        have N1 := HN1.out
        have KA := HKA.out
        have hB := HhB.out
        clear HKO HN0 HN1 HKA HhB
        rw [← HV.out]
        clear HV
        have HKO := Lib.hid KO
        have HN0 := Lib.hid N0
        have HN1 := Lib.hid N1
        have HKA := Lib.hid KA
        have HhB := Lib.hid hB
        clear KO N0 N1 KA hB
        go_loopw [14] (fun vi wr => ∃ k : Nat, vi = .int .i64 k ∧ k ≤ mm ∧ ∃ W', W' = wr ∧ Hid (Blk W' (w1.heap.size) 26 #[.slice q mm cap]) ∧ Hid (Nums W' q cap L) ∧ Hid (Nums W' q2 c2 (L ++ [c])) ∧ Hid (Blk W' (w2.heap.size) 26 #[.slice q2 m1 c2]) ∧ Hid (Below w.heap.size w W')) (fun vi _ => mm - (intOf vi).toNat)
        case atStart => exact ⟨0, rfl, by omega, _, rfl, HKO, HN0, HN1, HKA, HhB⟩
        case round =>
          clear HKO HN0 HN1 HKA HhB
          obtain ⟨k, rfl, hk, ws, rfl, HKO, HN0, HN1, HKA, HhB⟩ := hrel
          have KO := HKO.out
          have N0 := HN0.out
          have N1 := HN1.out
          have KA := HKA.out
          have hB := HhB.out
          clear HKO HN0 HN1 HKA HhB
          by_cases hkt : k < mm
          · have t1 : decide ((k : Int) < (mm : Int)) = true := by simp; omega
            obtain ⟨bb, oo, rfl, -, e2⟩ := N0.block (by rw [HLE.out]; omega)
            obtain ⟨bc, oc, rfl, -, e4⟩ := N1.block (by simp)
            obtain ⟨y, hy⟩ : ∃ y, L.getD k 0 = y := ⟨_, rfl⟩
            have f2 := e2 k (by rw [HLE.out]; exact hkt)
            have f4 := e4 k (by simp [HLE.out]; omega)
            rw [getD_snoc L c k (by rw [HLE.out]; exact hkt), hy] at f4
            rw [hy] at f2
            have k0 : (0 : Int) ≤ k := by omega
            have k1 : (k : Int) < mm := by omega
            have k2 : (k : Int) < m1 := by omega
            clear e2 e4 hy
            have o0 := KO.cell 0
            have ol := KO.lt
            have a0 := KA.cell 0
            have al := KA.lt
            have HKO := Lib.hid KO
            have HN0 := Lib.hid N0
            have HN1 := Lib.hid N1
            have HKA := Lib.hid KA
            have HhB := Lib.hid hB
            clear KO N0 N1 KA hB
            go_wp2_with fail
            go_quiet (fail)
            go_wp2_with fail
            have KO := HKO.out
            have N0 := HN0.out
            have N1 := HN1.out
            have KA := HKA.out
            have hB := HhB.out
            clear HKO HN0 HN1 HKA HhB
            replace KO := KO.drawn nq
            replace N0 := N0.drawn nq
            replace N1 := N1.drawn nq
            replace KA := KA.drawn nq
            replace hB := bel_drewN hB nq
            clear o0 ol a0 al f2 f4 t1
            have HKO := Lib.hid KO
            have HN0 := Lib.hid N0
            have HN1 := Lib.hid N1
            have HKA := Lib.hid KA
            have HhB := Lib.hid hB
            clear KO N0 N1 KA hB
            go_roundw
            case rel => exact ⟨k + 1, by simp, by omega, _, rfl, HKO, HN0, HN1, HKA, HhB⟩
            case measure => simp [intOf]; omega
          · have t1 : decide ((k : Int) < (mm : Int)) = false := by simp; omega
            have o0 := KO.cell 0
            have of := KO.free 0
            have ol := KO.lt
            have a0 := KA.cell 0
            have al := KA.lt
            have HKO : Hid (Blk (World.setCell _ ⟨w1.heap.size, 0, none⟩ (.slice q2 m1 c2)) w1.heap.size 26 #[.slice q2 m1 c2]) := Lib.hid (KO.put 0 (.slice q2 m1 c2))
            have HN0 := Lib.hid (N1.far w1.heap.size 0 (.slice q2 m1 c2) (N1.ne_box KO (fun z => by simp)))
            have HLE2 : Hid ((L ++ [c]).length = m1) := Lib.hid (by have h1 := HLE.out; have h2 := HM1.out; simp; omega)
            have HhB := Lib.hid (hB.setCell (p := ⟨w1.heap.size, 0, none⟩) (show w.heap.size ≤ w1.heap.size by exact HW1.out) (.slice q2 m1 c2))
            clear KO N0 N1 KA hB
            go_wp2_with fail
            clear o0 of ol a0 al t1 hkt
            go_roundw
            case rel => exact ⟨j + 1, by simp, by omega, _, rfl, _, _, _, _, HKO, HN0, HLE2, HSEL, HhB⟩
            case measure => simp [intOf]; omega
      · have s1 : decide ((j : Int) < (len : Int)) = false := by simp; omega
        go_wp2_with fail
        go_ret
        exact ⟨rfl, HhB.out⟩
end Go.Proofs.Ytpikiehipeecoaa
