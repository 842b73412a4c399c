/-
  WIRE: the contract of the document's Get.
-/
import Derived.Test.YtbfbfpjfmdannaaWireO
import Derived.Deep.RegionHeld3
namespace Go.Proofs.Ytbfbfpjfmdannaa
open Go.ChangeShapes Go.WideShapes Go.ChangeAt Go.RowKit Go.Lib

/-- the number of groups, as it is reckoned: without what is above 64 bits -/
def lvM : List Int → Nat
  | [] => 0
  | b :: l => (b.toNat % 128 + 128 * lvM l) % 18446744073709551616
theorem lvM_lt (l : List Int) : lvM l < 18446744073709551616 := by
  cases l with
  | nil => simp [lvM]
  | cons b l => simp only [lvM]; exact Nat.mod_lt _ (by omega)

theorem lvM_get : ∀ (bs : List Int) (i v m : Nat), (∀ x ∈ bs, In8 x) → getG bs i = some (v, m) → lvM (bs.take m) = v % 18446744073709551616
  | [], _, _, _, _, h => by simp [getG] at h
  | b :: bs, i, v, m, hr, h => by
    have hb := hr b (by simp)
    unfold In8 at hb
    simp only [getG] at h
    split at h
    · cases h
    · split at h
      · obtain ⟨r, hr', he⟩ := Option.map_eq_some_iff.1 h
        obtain ⟨r1, r2⟩ := r
        simp only [Prod.mk.injEq] at he
        have ih := lvM_get bs (i + 1) r1 r2 (fun x hx => hr x (List.mem_cons_of_mem _ hx)) hr'
        rw [← he.2, List.take_succ_cons]
        simp only [lvM]
        rw [ih]
        omega
      · split at h
        · cases h
        · simp only [Option.some.injEq, Prod.mk.injEq] at h
          rw [← h.2, List.take_succ_cons, List.take_zero]
          simp only [lvM]
          omega

theorem getG_skip : ∀ (k : Nat) (bs : List Int) (i : Nat), (∀ j, j < k → ∃ c, bs[j]? = some c ∧ 128 ≤ c) → i + k ≤ 10 → ∃ lo, getG bs i = (getG (bs.drop k) (i + k)).map fun r => (lo + 128 ^ k * r.1, r.2 + k)
  | 0, bs, i, _, _ => ⟨0, by simp⟩
  | k + 1, [], i, h, _ => by obtain ⟨c, h1, _⟩ := h 0 (by omega); simp at h1
  | k + 1, b :: bs, i, h, hi => by
    obtain ⟨c, h1, h2⟩ := h 0 (by omega)
    simp only [List.getElem?_cons_zero, Option.some.injEq] at h1
    subst h1
    obtain ⟨lo, ih⟩ := getG_skip k bs (i + 1) (fun j hj => by
      obtain ⟨c, g1, g2⟩ := h (j + 1) (by omega)
      exact ⟨c, by simpa using g1, g2⟩) (by omega)
    refine ⟨(b % 128).toNat + 128 * lo, ?_⟩
    rw [getG_on (by omega) h2, ih, Option.map_map, List.drop_succ_cons, show i + 1 + k = i + (k + 1) from by omega]
    congr 1
    funext r
    simp only [Function.comp, Prod.mk.injEq, Nat.pow_succ]
    refine ⟨?_, by omega⟩
    rw [Nat.mul_add, Nat.mul_comm (128 ^ k) 128, Nat.mul_assoc]; omega

theorem getF_lead_end {bs : List Int} {k : Nat} (h : ∀ j, j < k → ∃ c, bs[j]? = some c ∧ 128 ≤ c) (hk : k ≤ 10) (he : k = bs.length ∨ k = 10) : getF bs = (0, 0, 3) := by
  obtain ⟨lo, hg⟩ := getG_skip k bs 0 h (by omega)
  refine getF_none ?_
  rw [hg, Nat.zero_add]
  rcases he with he | he
  · rw [he, List.drop_length]; rfl
  · subst he; rw [getG_over]; rfl

theorem getF_lead {bs : List Int} {k : Nat} {c : Int} (hr : ∀ x ∈ bs, In8 x) (h : ∀ j, j < k → ∃ c, bs[j]? = some c ∧ 128 ≤ c) (hk : k < 10) (hc : bs[k]? = some c) (hc2 : c < 128) :
    (putF (lvM (bs.take (k + 1))) = bs.take (k + 1) → getF bs = (zag (lvM (bs.take (k + 1))), k + 1, 0)) ∧ (putF (lvM (bs.take (k + 1))) ≠ bs.take (k + 1) → getF bs = (0, 0, 3)) := by
  have hkl : k < bs.length := (List.getElem?_eq_some_iff.1 hc).1
  constructor
  · intro he
    have h1 := getG_put (lvM (bs.take (k + 1))) 0 (bs.drop (k + 1)) (by have := lvM_lt (bs.take (k + 1)); simpa using this) (fun h => absurd h (by omega))
    rw [he, List.take_append_drop, List.length_take, Nat.min_eq_left (by omega)] at h1
    exact getF_some h1
  · intro he
    obtain ⟨lo, hg⟩ := getG_skip k bs 0 h (by omega)
    rw [Nat.zero_add, drop_cons hc] at hg
    cases hg2 : getG (c :: bs.drop (k + 1)) k with
    | none => rw [hg2] at hg; exact getF_none hg
    | some r =>
      exfalso
      obtain ⟨r1, r2⟩ := r
      rw [hg2] at hg
      have hr2 : r2 = 1 := by
        simp only [getG] at hg2
        rw [if_neg (by omega), if_neg (by omega)] at hg2
        split at hg2
        · cases hg2
        · injection hg2 with hg2; injection hg2 with _ hg2; exact hg2.symm
      subst hr2
      simp only [Option.map_some] at hg
      rw [Nat.add_comm 1 k] at hg
      have e1 := (getG_take bs 0 _ _ hr hg).1
      have e2 := lvM_get bs 0 _ _ hr hg
      have e3 := getG_bound bs 0 _ _ hr hg
      simp only [Nat.pow_zero, Nat.mul_one] at e3
      rw [Nat.mod_eq_of_lt e3] at e2
      exact he (by rw [e2, e1])

set_option maxHeartbeats 4000000 in
theorem rGet_any (p : Option Addr) (bs : List Int) (cap : Nat) (w : World) (hx : Byts w p bs) (hl : bs.length ≤ 1000000) (hcap : bs.length ≤ cap) :
    Calls Try.prog 42 #[.slice p bs.length cap] w (GetPost w bs) := by
  have HX := Lib.hid hx
  clear hx
  go_enter Try.func42, Try.ntmps42
  go_wp2_with fail
  go_loopw [6] (fun i wr => ∃ k : Nat, k ≤ bs.length ∧ k ≤ 10 ∧ i = .int .i64 k ∧ (∀ j, j < k → ∃ c, bs[j]? = some c ∧ 128 ≤ c) ∧ Below w.heap.size w wr) (fun i _ => 10 - (intOf i).toNat)
  case atStart => exact ⟨0, Nat.zero_le _, by omega, rfl, fun j hj => by omega, Below.refl _ _⟩
  case round =>
    obtain ⟨k, hk, hk10, rfl, hlead, hb⟩ := hrel
    have HLEAD := Lib.hid hlead
    clear hlead
    by_cases hke : k = bs.length
    · have HF := Lib.hid (getF_lead_end HLEAD.out hk10 (.inl hke))
      subst hke
      go_wp2_with fail
      refine bodyPost_ret (v := .tuple #[.int .i64 0, .int .i64 0, .int .i64 3]) (by simp [results, Try.results42, go_sem]) rfl ?_
      exact ⟨by rw [HF.out]; rfl, hb⟩
    · have hlt : k < bs.length := by omega
      have hne : ((k : Int) == (bs.length : Int)) = false := by simp; omega
      by_cases hk1 : k = 10
      · have HF := Lib.hid (getF_lead_end HLEAD.out hk10 (.inr hk1))
        subst hk1
        clear hke
        go_wp2_with fail
        refine bodyPost_ret (v := .tuple #[.int .i64 0, .int .i64 0, .int .i64 3]) (by simp [results, Try.results42, go_sem]) rfl ?_
        exact ⟨by rw [HF.out]; rfl, hb⟩
      · have hlt10 : k < 10 := by omega
        have hne10 : ((k : Int) == 10) = false := by simp; omega
        obtain ⟨b, off, c, e1, _, c1, ec, hc⟩ := (HX.out.later hb).at_ k hlt
        subst e1
        have EC := Lib.hid ec
        clear ec hke hk1
        unfold In8 at hc
        by_cases hc1 : 128 ≤ c
        · go_wp2_with fail
          go_roundw
          case rel =>
            refine ⟨k + 1, by omega, by omega, by go_num, fun j hj => ?_, hb⟩
            by_cases hjk : j = k
            · subst hjk; exact ⟨c, EC.out, hc1⟩
            · exact HLEAD.out j (by omega)
          case measure => simp [intOf]; omega
        · have hc2 : ¬ (128 : Int) ≤ c := hc1
          have HE := Lib.hid (getF_lead HX.out.rng HLEAD.out hlt10 EC.out (by omega))
          go_wp2_with fail
          clear c1
          go_loopw [5, 7] (fun u i wr => ∃ t : Nat, t ≤ k + 1 ∧ i = .int .i64 ((k : Int) - t) ∧ u = .int .u64 (lvM ((bs.take (k + 1)).drop (k + 1 - t)) : Nat) ∧ Below w.heap.size w wr) (fun _ i _ => (intOf i + 1).toNat)
          case atStart => exact ⟨0, by omega, by simp, by simp [lvM], hb⟩
          case round =>
            clear hb
            obtain ⟨t, ht, rfl, rfl, hb⟩ := hrel
            by_cases ht2 : t ≤ k
            · obtain ⟨j, hj, hjk⟩ : ∃ j : Nat, (k : Int) - t = (j : Int) ∧ j + t = k := ⟨k - t, by omega, by omega⟩
              rw [hj]
              obtain ⟨b', off', c', e1, _, c1', ec', hc'⟩ := (HX.out.later hb).at_ j (by omega)
              injection e1 with e1
              injection e1 with e1 e2
              subst e1 e2
              have hx64 := lvM_lt ((bs.take (k + 1)).drop (k + 1 - t))
              have hstep : lvM ((bs.take (k + 1)).drop (k + 1 - (t + 1))) = (c'.toNat % 128 + 128 * lvM ((bs.take (k + 1)).drop (k + 1 - t))) % 18446744073709551616 := by
                have h1 : (bs.take (k + 1))[j]? = some c' := by rw [List.getElem?_take, if_pos (by omega)]; exact ec'
                rw [show k + 1 - (t + 1) = j from by omega, drop_cons h1, show k + 1 - t = j + 1 from by omega]
                simp only [lvM]
              have HST := Lib.hid hstep
              generalize lvM ((bs.take (k + 1)).drop (k + 1 - t)) = x at *
              unfold In8 at hc'
              clear hstep ec' hj
              go_wp2_with fail
              have hv : IntKind.u64.wrap (IntKind.u64.wrap (128 * (x : Int)) + c' % 128) = (((c'.toNat % 128 + 128 * x) % 18446744073709551616 : Nat) : Int) := by
                simp only [u64_wrap]; omega
              go_roundw
              case rel => exact ⟨t + 1, by omega, by first | (congr 1; done) | (congr 1; omega), by rw [HST.out, hv], hb⟩
              case measure => first | (simp [intOf]; done) | (simp [intOf]; omega)
            · obtain rfl : t = k + 1 := by omega
              rw [show ((k : Int) - ((k + 1 : Nat) : Int)) = -1 from by omega, Nat.sub_self, List.drop_zero]
              have hu := lvM_lt (bs.take (k + 1))
              have hkl : (bs.take (k + 1)).length = k + 1 := by simp; omega
              generalize lvM (bs.take (k + 1)) = u at *
              have hul := putF_len10 hu
              have HKL := Lib.hid hkl
              have X1 := Lib.hid (HX.out.later hb)
              have hkc : k + 1 ≤ cap := by omega
              have hkc2 : (k : Int) + 1 ≤ cap := by omega
              have hkc0 : (0 : Int) ≤ (k : Int) + 1 := by omega
              have hkw : IntKind.i64.wrap ((k : Int) + 1) = (k : Int) + 1 := by rw [IntKind.wrap_i64]; omega
              obtain ⟨n, hn, hnz⟩ : ∃ n : Int, n = zag u ∧ In64 n := ⟨_, rfl, zag_in hu⟩
              have hzz : zig n = u := by rw [hn, zig_zag]
              have HZZ := Lib.hid (show putF (zig n) = putF u by rw [hzz])
              have HN : RowKit.Hid (zag u = n) := Lib.hid hn.symm
              have HNZ := Lib.hid hnz
              have HHB := Lib.hid hb
              clear hkl hb hzz hnz
              by_cases hpar : u % 2 = 1
              all_goals (
                have hp2 : ((u : Int) % 2 == 1) = decide (u % 2 = 1) := by
                  rw [Bool.eq_iff_iff]; simp; omega
                have hn2 : n = (if u % 2 = 1 then -((u : Int) / 2) - 1 else (u : Int) / 2) := by
                  rw [hn]; unfold zag; repeat' split
                  all_goals omega
                simp only [hpar, if_true, if_false, decide_true, decide_false] at hp2 hn2
                clear hn
                have HPAR := Lib.hid hpar
                clear hpar
                go_wp2_with fail
                rw [← hn2]
                clear hn2 hp2
                go_region_held3 (fun w' => Below wr.heap.size wr w')
                  (first
                    | (repeat (first | exact Below.refl _ _ | assumption | refine bel_drew ?_ | refine bel_alloc ?_ _)))
                  (first
                    | (go_at_call 40
                       refine (rPut_any n _ HNZ.out).mono ?_
                       intro e w2 h
                       obtain ⟨p2, c2, rfl, x2, -, -, b2⟩ := h.slice HZZ.out rfl
                       have X2 := Lib.hid x2
                       clear h x2
                       have bb2 := below_of wr b2 (by repeat (first | exact Below.refl _ _ | assumption | refine bel_drew ?_ | refine bel_alloc ?_ _)))
                    | (go_at_call 11
                       have hS := rSame_any p2 (some ⟨b, off, none⟩) (putF u) (bs.take (k + 1)) c2 cap w2 X2.out ((X1.out.later bb2).take (k + 1)) (by omega) (by rw [HKL.out]; omega)
                       rw [HKL.out] at hS
                       refine hS.mono ?_
                       rintro e w3 ⟨rfl, b3⟩
                       have bb3 := below_of wr b3 (by repeat (first | exact Below.refl _ _ | assumption | refine bel_drew ?_ | refine bel_alloc ?_ _))))
                all_goals (
                  by_cases heq : putF u = bs.take (k + 1)
                  · have HF := Lib.hid (HE.out.1 heq)
                    rw [show decide (putF u = bs.take (k + 1)) = true from by simpa using heq]
                    clear heq
                    go_wp2_with fail
                    refine bodyPost_ret (v := .tuple #[.int .i64 n, .int .i64 ((k + 1 : Nat) : Int), .int .i64 0]) (by simp [results, Try.results42, go_sem]) rfl ?_
                    exact ⟨by rw [HF.out, HN.out], HHB.out.trans (bb3.mono HHB.out.size)⟩
                  · have HF := Lib.hid (HE.out.2 heq)
                    rw [show decide (putF u = bs.take (k + 1)) = false from by simpa using heq]
                    clear heq
                    go_wp2_with fail
                    refine bodyPost_ret (v := .tuple #[.int .i64 0, .int .i64 0, .int .i64 3]) (by simp [results, Try.results42, go_sem]) rfl ?_
                    exact ⟨by rw [HF.out]; rfl, HHB.out.trans (bb3.mono HHB.out.size)⟩))

end Go.Proofs.Ytbfbfpjfmdannaa
