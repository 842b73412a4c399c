/-
  OM: om.Right.
-/
import Derived.Test.YtjpimaiogdckpaaOmC
namespace Go.Proofs.Ytjpimaiogdckpaa
open Go.ChangeShapes Go.WideShapes Go.ChangeAt Go.RowKit Go.Sort

theorem bel_drewN {B : Nat} {w x : World} (h : Below B w x) : ∀ n, Below B w (x.drewN n)
  | 0 => h
  | n + 1 => ⟨h.os, h.tape, h.output, h.size, h.block⟩

set_option maxRecDepth 100000 in
set_option maxHeartbeats 4000000 in
theorem right_any (l : List Int) (n : Nat) (hl : l.length = n) (hn : n ≤ 1000000) (p : Option Addr) (c : Nat) (w : World) (h : Nums w p c l) :
    Calls Try.prog 26 #[.agg #[.slice p n c]] w fun e w' => e = .returned (.bool (decide (Rt l))) ∧ Below w.heap.size w w' := by
  obtain ⟨W, hW⟩ : ∃ W, W = w.alloc (Obj.cells #[.slice p n c] 54) := ⟨_, rfl⟩
  have hb0 : Below w.heap.size w W := by rw [hW]; exact below_alloc1 _ _
  have K0 : Blk W w.heap.size 54 #[.slice p n c] := by rw [hW]; exact Blk.made _ _ _
  have HW := Lib.hid hW
  have HN := Lib.hid (h.later hb0)
  have HL := Lib.hid hl
  have b0 : W.cell? ⟨w.heap.size, 0, none⟩ = some (.slice p n c) := K0.cell 0
  have lk := K0.lt
  have HB0 := Lib.hid hb0
  clear hW h hl hb0
  go_enter Try.func26, Try.ntmps26
  have hb1 : Below w.heap.size w (w.alloc (Obj.cells #[.slice p n c] 54)) := below_alloc1 _ _
  by_cases h1 : n < 1
  · have d1 : decide ((n : Int) < 1) = true := by simp; omega
    have d2 : decide ((1000 : Int) < n) = false := by simp; omega
    have hr : Hid (decide (Rt l) = false) := Lib.hid (by simp; intro h; have := h.1; rw [HL.out] at this; omega)
    go_wp2_with fail
    go_ret
    exact ⟨by rw [hr.out]; rfl, hb1⟩
  have d1 : decide ((n : Int) < 1) = false := by simp; omega
  by_cases h2 : 1000 < n
  · have d2 : decide ((1000 : Int) < n) = true := by simp; omega
    have hr : Hid (decide (Rt l) = false) := Lib.hid (by simp; intro h; have := h.2.1; rw [HL.out] at this; omega)
    go_wp2_with fail
    go_ret
    exact ⟨by rw [hr.out]; rfl, hb1⟩
  have d2 : decide ((1000 : Int) < n) = false := by simp; omega
  clear hb1
  go_wp2_with fail
  rw [← HW.out]
  refine (values_any p n c _).mono ?_
  rintro e w1 ⟨rfl, hw1⟩
  have hb1 : Below W.heap.size W w1 := by rw [hw1]; exact below_alloc1 _ _
  have K1 : Blk w1 W.heap.size 45 #[.slice p n c] := by rw [hw1]; exact Blk.made _ _ _
  have HS := Lib.hid (sorted_any W.heap.size n c p l HL.out (by omega) (by omega) w1 K1.lt (K1.cell 0) (HN.out.later hb1))
  have HB1 := Lib.hid hb1
  clear hw1 hb1 K1 K0
  go_wp2_with fail
  refine HS.out.mono ?_
  rintro e w2 ⟨g, cap, rfl, ho, hb2⟩
  obtain ⟨g', cap', he, k1, k2, k3, k4, k5, k6, -⟩ := own_holds ho (by omega)
  cases he
  have hbW : Below W.heap.size W w2 := below_trans HB1.out hb2
  have hlen : (srt l).length = n := k5
  obtain ⟨k, hk⟩ : ∃ k, k + 1 = n := ⟨n - 1, by omega⟩
  have ek : (n : Int) - 1 = (k : Int) := by omega
  have hkn : k < n := by omega
  have i0 : (0 : Int) < n := by omega
  have j0 : 0 < n := by omega
  have i1 : (k : Int) < n := by omega
  have i2 : (0 : Int) ≤ k := by omega
  have ew : IntKind.i64.wrap (k : Int) = (k : Int) := by rw [IntKind.wrap_i64]; omega
  have hR := right_iff (l := l) k (by rw [hlen]; exact hk) (by rw [HL.out]; omega)
  obtain ⟨x0, hx0⟩ : ∃ x, (srt l)[0]'(by omega) = x := ⟨_, rfl⟩
  obtain ⟨xk, hxk⟩ : ∃ x, (srt l)[k]'(by omega) = x := ⟨_, rfl⟩
  rw [hx0, hxk, HL.out] at hR
  have c0 : w2.cell? ⟨g, 0, none⟩ = some (.int .i64 x0) := by
    have := (k6 0 (by simp; omega)).1
    rw [Nat.add_zero] at this
    rw [this, ← hx0]; simp [show 0 < (srt l).length by omega]
  have ck : w2.cell? ⟨g, k, none⟩ = some (.int .i64 xk) := by
    have := (k6 k (by simp; omega)).1
    rw [Nat.zero_add] at this
    rw [this, ← hxk]; simp [show k < (srt l).length by omega]
  have b2 : w2.cell? ⟨w.heap.size, 0, none⟩ = some (.slice p n c) := (hbW.cell (p := ⟨w.heap.size, 0, none⟩) lk).trans b0
  have hgW : W.heap.size ≤ g := Nat.le_trans HB1.out.size k1
  have hg0 : g ≠ w.heap.size := by omega
  have HBW := Lib.hid (HB0.out.trans (hbW.mono HB0.out.size))
  have HK6 := Lib.hid k6
  have HLEN := Lib.hid hlen
  have HRR := Lib.hid hR
  clear hR k6 hlen k5 hk ho hb2 hbW hx0 hxk b0 d1 d2 h1
  by_cases h3 : 0 ≤ x0
  · have d3 : decide (0 ≤ x0) = true := by simpa using h3
    by_cases h4 : xk ≤ 1099511627776
    · have d4 : decide (xk ≤ 1099511627776) = true := by simpa using h4
      obtain ⟨m, hm⟩ : ∃ m, (Lib.compact (srt l)).length = m := ⟨_, rfl⟩
      have HR2 : Hid (decide (Rt l) = decide ((m : Int) = n)) := Lib.hid (by
        rw [decide_eq_decide, HRR.out, hm]
        constructor
        · rintro ⟨_, _, h⟩; omega
        · intro h; exact ⟨h3, h4, by omega⟩)
      have HCP : Hid (∀ q0, Calls Try.prog 35 #[.slice (some ⟨g, 0, none⟩) n cap] (w2.drewN q0) fun e w' => e = .returned (.slice (some ⟨g, 0, none⟩) m cap) ∧ w'.cell? ⟨w.heap.size, 0, none⟩ = some (.slice p n c) ∧ Below w.heap.size w w') := Lib.hid fun q0 => by
        have := Try.slices_Compact_int g 0 cap (srt l) (w2.drewN q0) HK6.out (by rw [HLEN.out]; omega) (by rw [HLEN.out]; omega)
        rw [HLEN.out, hm] at this
        refine this.mono ?_
        rintro e w3 ⟨rfl, q, rfl⟩
        have hbb := Lib.below_putRow (enc := Value.int .i64) (q := q) (d := (Lib.compact (srt l) ++ List.replicate (n - m) 0).toArray) ((bel_drewN (Below.refl w2.heap.size w2) q0).mono (show g ≤ w2.heap.size by omega)) (Nat.le_refl g)
        refine ⟨rfl, ?_, ?_⟩
        · rw [hbb.cell (p := ⟨w.heap.size, 0, none⟩) (show w.heap.size < g by omega)]; exact b2
        · exact HBW.out.trans (hbb.mono (by omega))
      clear HK6 HRR
      go_wp2_with fail
      refine wp_region_noPanic ?_
      refine wp_region_any (by kernel_rfl) ?_
      change wpAny _ _ _ _ _ _ _ (World.drew _)
      refine wpAny_take (i := 0) (v := ?v1) rfl (by kernel_rfl) (by kernel_rfl) (by kernel_rfl) (fun _ _ _ h => h) (Or.inl ⟨by rfl, ?hy1⟩) ?rest1
      case hy1 => (intro w; go_simp; try with_reducible rfl)
      refine wpAny_take (i := 1) (v := ?v2) rfl (by kernel_rfl) (by kernel_rfl) (by kernel_rfl) (fun _ _ _ h => h) (Or.inl ⟨by rfl, ?hy2⟩) ?rest2
      case hy2 => (intro w; go_simp; try with_reducible rfl)
      refine wpAny_ready (rs := [2]) (by kernel_rfl) (by simp) (AllReady.cons rfl (fun K hK => ?_) AllReady.nil)
      go_simp
      refine hK _ _ ?_
      clear hK K
      refine wpAny_take (i := 3) (v := ?v3) rfl (by kernel_rfl) (by kernel_rfl) (by kernel_rfl) (fun _ _ _ h => h) (Or.inl ⟨by rfl, ?hy3⟩) ?rest3
      case hy3 => (intro w; go_simp; try with_reducible rfl)
      refine wpAny_take (i := 4) (v := ?v4) rfl (by kernel_rfl) (by kernel_rfl) (by kernel_rfl) (fun _ _ _ h => h) (Or.inl ⟨by rfl, ?hy4⟩) ?rest4
      case hy4 => (intro w; go_simp; try with_reducible rfl)
      refine wpAny_take (i := 5) (v := ?v5) rfl (by kernel_rfl) (by kernel_rfl) (by kernel_rfl) (fun _ _ _ h => h) (Or.inl ⟨by rfl, ?hy5⟩) ?rest5
      case hy5 => (intro w; go_simp; try with_reducible rfl)
      refine wpAny_take (i := 6) (v := ?v6) rfl (by kernel_rfl) (by kernel_rfl) (by kernel_rfl) (fun _ _ _ h => h) (Or.inl ⟨by rfl, ?hy6⟩) ?rest6
      case hy6 => (intro w; go_simp; try with_reducible rfl)
      refine wpAny_take (i := 7) (v := ?v7) rfl (by kernel_rfl) (by kernel_rfl) (by kernel_rfl) (fun _ _ _ h => h) (Or.inl ⟨by rfl, ?hy7⟩) ?rest7
      case hy7 => (intro w; go_simp; try with_reducible rfl)
      refine wpAny_take (i := 8) (v := ?v8) rfl (by kernel_rfl) (by kernel_rfl) (by kernel_rfl) (fun _ _ _ h => h) (Or.inl ⟨by rfl, ?hy8⟩) ?rest8
      case hy8 => (intro w; go_simp; try with_reducible rfl)
      refine wpAny_take (i := 9) (v := ?v9) rfl (by kernel_rfl) (by kernel_rfl) (by kernel_rfl) (fun _ _ _ h => h) (Or.inl ⟨by rfl, ?hy9⟩) ?rest9
      case hy9 => (intro w; go_simp; try with_reducible rfl)
      refine wpAny_ready (rs := [10]) (by kernel_rfl) (by simp) (AllReady.cons rfl (fun K hK => ?_) AllReady.nil)
      go_simp
      refine hK _ _ ?_
      clear hK K
      refine wpAny_take (i := 11) (v := ?v10) rfl (by kernel_rfl) (by kernel_rfl) (by kernel_rfl) (fun _ _ _ h => h) (Or.inl ⟨by rfl, ?hy10⟩) ?rest10
      case hy10 => (intro w; go_simp; try with_reducible rfl)
      refine wpAny_take (i := 12) (v := ?v11) rfl (by kernel_rfl) (by kernel_rfl) (by kernel_rfl) (fun _ _ _ h => h) (Or.inl ⟨by rfl, ?hy11⟩) ?rest11
      case hy11 => (intro w; go_simp; try with_reducible rfl)
      refine wpAny_take (i := 13) (v := ?v12) rfl (by kernel_rfl) (by kernel_rfl) (by kernel_rfl) (fun _ _ _ h => h) (Or.inl ⟨by rfl, ?hy12⟩) ?rest12
      case hy12 => (intro w; go_simp; try with_reducible rfl)
      refine wpAny_take (i := 14) (v := ?v13) rfl (by kernel_rfl) (by kernel_rfl) (by kernel_rfl) (fun _ _ _ h => h) (Or.inl ⟨by rfl, ?hy13⟩) ?rest13
      case hy13 => (intro w; go_simp; try with_reducible rfl)
      refine wpAny_take (i := 17) (v := ?v14) rfl (by kernel_rfl) (by kernel_rfl) (by kernel_rfl) (fun _ _ _ h => h) (Or.inl ⟨by rfl, ?hy14⟩) ?rest14
      case hy14 => (intro w; go_simp; try with_reducible rfl)
      refine wpAny_ready (rs := [15, 18]) (by kernel_rfl) (by simp) (AllReady.cons rfl (fun K hK => ?_) (AllReady.cons rfl (fun K hK => ?_) AllReady.nil))
      · go_simp
        refine (HCP.out _).mono ?_
        rintro e w3 ⟨rfl, b3, hb3⟩
        have HB3 := Lib.hid hb3
        clear hb3
        refine hK _ _ ?_
        clear hK K
        refine wpAny_take (i := 16) (v := ?v15) rfl (by kernel_rfl) (by kernel_rfl) (by kernel_rfl) (fun _ _ _ h => h) (Or.inl ⟨by rfl, ?hy15⟩) ?rest15
        case hy15 => (intro w; go_simp; try with_reducible rfl)
        refine wpAny_ready (rs := [18]) (by kernel_rfl) (by simp) (AllReady.cons rfl (fun K hK => ?_) AllReady.nil)
        go_simp
        refine hK _ _ ?_
        clear hK K
        refine wpAny_take (i := 19) (v := ?v16) rfl (by kernel_rfl) (by kernel_rfl) (by kernel_rfl) (fun _ _ _ h => h) (Or.inl ⟨by rfl, ?hy16⟩) ?rest16
        case hy16 => (intro w; go_simp; try with_reducible rfl)
        refine wpAny_take (i := 20) (v := ?v17) rfl (by kernel_rfl) (by kernel_rfl) (by kernel_rfl) (fun _ _ _ h => h) (Or.inl ⟨by rfl, ?hy17⟩) ?rest17
        case hy17 => (intro w; go_simp; try with_reducible rfl)
        refine wpAny_take (i := 21) (v := ?v18) rfl (by kernel_rfl) (by kernel_rfl) (by kernel_rfl) (fun _ _ _ h => h) (Or.inl ⟨by rfl, ?hy18⟩) ?rest18
        case hy18 => (intro w; go_simp; try with_reducible rfl)
        refine wpAny_take (i := 22) (v := ?v19) rfl (by kernel_rfl) (by kernel_rfl) (by kernel_rfl) (fun _ _ _ h => h) (Or.inl ⟨by rfl, ?hy19⟩) ?rest19
        case hy19 => (intro w; go_simp; try with_reducible rfl)
        refine wpAny_done (by kernel_rfl) ?_ _
        refine NoPanic.normal ?_
        go_wp2_with fail
        go_ret
        exact ⟨by rw [HR2.out]; rfl, HB3.out⟩
      · go_simp
        refine hK _ _ ?_
        clear hK K
        refine wpAny_take (i := 19) (v := ?v20) rfl (by kernel_rfl) (by kernel_rfl) (by kernel_rfl) (fun _ _ _ h => h) (Or.inl ⟨by rfl, ?hy20⟩) ?rest20
        case hy20 => (intro w; go_simp; try with_reducible rfl)
        refine wpAny_ready (rs := [15]) (by kernel_rfl) (by simp) (AllReady.cons rfl (fun K hK => ?_) AllReady.nil)
        go_simp
        refine (HCP.out _).mono ?_
        rintro e w3 ⟨rfl, b3, hb3⟩
        have HB3 := Lib.hid hb3
        clear hb3
        refine hK _ _ ?_
        clear hK K
        refine wpAny_take (i := 16) (v := ?v21) rfl (by kernel_rfl) (by kernel_rfl) (by kernel_rfl) (fun _ _ _ h => h) (Or.inl ⟨by rfl, ?hy21⟩) ?rest21
        case hy21 => (intro w; go_simp; try with_reducible rfl)
        refine wpAny_take (i := 20) (v := ?v22) rfl (by kernel_rfl) (by kernel_rfl) (by kernel_rfl) (fun _ _ _ h => h) (Or.inl ⟨by rfl, ?hy22⟩) ?rest22
        case hy22 => (intro w; go_simp; try with_reducible rfl)
        refine wpAny_take (i := 21) (v := ?v23) rfl (by kernel_rfl) (by kernel_rfl) (by kernel_rfl) (fun _ _ _ h => h) (Or.inl ⟨by rfl, ?hy23⟩) ?rest23
        case hy23 => (intro w; go_simp; try with_reducible rfl)
        refine wpAny_take (i := 22) (v := ?v24) rfl (by kernel_rfl) (by kernel_rfl) (by kernel_rfl) (fun _ _ _ h => h) (Or.inl ⟨by rfl, ?hy24⟩) ?rest24
        case hy24 => (intro w; go_simp; try with_reducible rfl)
        refine wpAny_done (by kernel_rfl) ?_ _
        refine NoPanic.normal ?_
        go_wp2_with fail
        go_ret
        exact ⟨by rw [HR2.out]; rfl, HB3.out⟩
    · have d4 : decide (xk ≤ 1099511627776) = false := by simpa using h4
      have HR2 : Hid (decide (Rt l) = false) := Lib.hid (by simp [HRR.out]; intro _ h; omega)
      go_wp2_with fail
      go_quiet (fail)
      go_wp2_with fail
      go_ret
      exact ⟨by rw [HR2.out]; rfl, bel_drewN HBW.out _⟩
  · have d3 : decide (0 ≤ x0) = false := by simpa using h3
    have HR2 : Hid (decide (Rt l) = false) := Lib.hid (by simp [HRR.out]; intro h; omega)
    go_wp2_with fail
    go_quiet (fail)
    go_wp2_with fail
    go_ret
    exact ⟨by rw [HR2.out]; rfl, bel_drewN HBW.out _⟩
end Go.Proofs.Ytjpimaiogdckpaa
