/-
  TRACE: the document's Parse. Written by wip/tools/gen/trh.py.
-/
import Derived.Test.YtbfbfpjfmdannaaTrG
import Derived.Test.YtbfbfpjfmdannaaStep2
import Derived.BigRegion
namespace Go.Proofs.Ytbfbfpjfmdannaa
open Go.ChangeShapes Go.WideShapes Go.ChangeAt Go.RowKit

/-- what lies in two blocks is as it was in X -/
def Sx (X : World) (g h : Nat) (wq : World) : Prop := g < wq.heap.size ∧ h < wq.heap.size ∧ (∀ o, wq.cell? ⟨g, o, none⟩ = X.cell? ⟨g, o, none⟩) ∧ ∀ o, wq.cell? ⟨h, o, none⟩ = X.cell? ⟨h, o, none⟩
theorem Sx.drew {X wq : World} {g h : Nat} (s : Sx X g h wq) : Sx X g h wq.drew := s
theorem Sx.alloc {X wq : World} {g h : Nat} (s : Sx X g h wq) (o : Obj) : Sx X g h (wq.alloc o) := by
  have hb : Below wq.heap.size wq (wq.alloc o) := bel_alloc (Below.refl _ _) _
  exact ⟨Nat.lt_of_lt_of_le s.1 hb.size, Nat.lt_of_lt_of_le s.2.1 hb.size, fun x => (hb.cell (p := ⟨g, x, none⟩) s.1).trans (s.2.2.1 x), fun x => (hb.cell (p := ⟨h, x, none⟩) s.2.1).trans (s.2.2.2 x)⟩
theorem Sx.grown {X wq w' : World} {g h : Nat} {row : Option Nat} (s : Sx X g h wq) (hg : wq.grownBy w' row) (h1 : row ≠ some g) (h2 : row ≠ some h) : Sx X g h w' := by
  refine ⟨Nat.lt_of_lt_of_le s.1 hg.size, Nat.lt_of_lt_of_le s.2.1 hg.size, fun x => ?_, fun x => ?_⟩
  · rw [← s.2.2.1 x]; unfold World.cell?; simp only; rw [hg.block g s.1 (fun e => h1 e.symm)]
  · rw [← s.2.2.2 x]; unfold World.cell?; simp only; rw [hg.block h s.2.1 (fun e => h2 e.symm)]

set_option maxRecDepth 100000 in
set_option maxHeartbeats 8000000 in
theorem rparse_any (p : Option Addr) (bs : List Int) (cap : Nat) (w : World) (hx : Byts w p bs) (hl : bs.length ≤ 100000) (hcap : bs.length ≤ cap) (hp : p = none → cap = 0) :
    Calls Try.prog 17 #[.slice p bs.length cap] w (ParsePost w bs) := by
  have HX := Lib.hid hx
  clear hx
  go_enter Try.func17, Try.ntmps17
  go_wp2_with fail
  refine (rOpen_any p bs cap w HX.out (by omega) hcap).mono ?_
  rintro r w1 ⟨hb1, ⟨ho, rfl⟩ | ⟨inner, at_, q, cq, ho, hat, hil, rfl, hi, hic, hin⟩⟩
  · have HP := Lib.hid (trParse_open_none ho)
    have HB := Lib.hid hb1
    clear ho hb1
    go_wp2_with fail
    refine bodyPost_ret (v := .tuple #[.slice none 0 0, .int .i64 3]) (by simp [results, Try.results17, go_sem]) rfl ?_
    exact ParsePost.none HP.out HB.out
  · have HP := Lib.hid (trParse_open_some ho)
    have HB := Lib.hid hb1
    have HI := Lib.hid hi
    clear ho hb1 hi
    by_cases hab : ¬ at_ = bs.length
    · have m1 : ((at_ : Int) != (bs.length : Int)) = true := by simp; omega
      have m2 : ((at_ : Int) == (bs.length : Int)) = false := by simp; omega
      have HP2 : Hid (trParse bs = none) := Lib.hid (by rw [HP.out, if_neg hab])
      clear hab
      go_wp2_with fail
      refine bodyPost_ret (v := .tuple #[.slice none 0 0, .int .i64 3]) (by simp [results, Try.results17, go_sem]) rfl ?_
      exact ParsePost.none HP2.out HB.out
    replace hab := Classical.not_not.1 hab
    have HP := Lib.hid (HP.out.trans (if_pos hab))
    have m1 : ((at_ : Int) != (bs.length : Int)) = false := by simp; omega
    have m2 : ((at_ : Int) == (bs.length : Int)) = true := by simp; omega
    have HAB := Lib.hid hab
    clear hab
    go_wp2_with fail
    refine (rGetNums_any q inner cq w1 ⟨HI.out, by omega, hic, hin⟩).mono ?_
    clear m1 m2
    rintro r w2 ⟨nums, at2, er, qn, cn, hg0, hg1, hnl, rfl, hn, hb2⟩
    cases hg : numsG inner with
    | none =>
      obtain ⟨rfl, rfl, rfl⟩ := hg0 hg
      have HP2 : Hid (trParse bs = none) := Lib.hid (by rw [HP.out, hg])
      have HB2 := Lib.hid (HB.out.trans (hb2.mono HB.out.size))
      clear hg hb2 hg0 hg1 hn
      go_wp2_with fail
      refine bodyPost_ret (v := .tuple #[.slice none 0 0, .int .i64 3]) (by simp [results, Try.results17, go_sem]) rfl ?_
      exact ParsePost.none HP2.out HB2.out
    | some nm =>
    obtain ⟨nums', at2'⟩ := nm
    obtain ⟨rfl, rfl, rfl⟩ := hg1 _ _ hg
    clear hg0 hg1
    have HP := Lib.hid (HP.out.trans (by rw [hg] : _ = if at2 = inner.length ∧ nums.length % 8 = 0 then evRows nums else none))
    have hgl : nums.length ≤ inner.length := by
      rw [numsG_eq] at hg
      split at hg
      · cases hg
      · obtain ⟨⟨r1, r2⟩, hr, he⟩ := Option.map_eq_some_iff.1 hg
        have := getRow_len _ _ r1 r2 hr
        simp only [Prod.mk.injEq] at he
        rw [List.length_drop] at this
        rw [← he.1]; omega
    have HB := Lib.hid (HB.out.trans (hb2.mono HB.out.size))
    have HN := Lib.hid hn
    obtain ⟨L, hL⟩ : ∃ L, nums.length = L := ⟨_, rfl⟩
    have HL := Lib.hid hL
    rw [hL] at hgl ⊢
    clear hg hb2 hn hL
    have hLM : L ≤ 100000 := by omega
    have HBL : Hid (L ≤ bs.length) := Lib.hid (by omega)
    by_cases hab : ¬ at2 = inner.length
    · have m1 : ((at2 : Int) != (inner.length : Int)) = true := by simp; omega
      have m2 : ((at2 : Int) == (inner.length : Int)) = false := by simp; omega
      have HP2 : Hid (trParse bs = none) := Lib.hid (by rw [HP.out, if_neg (fun h => hab h.1)])
      clear hab
      go_wp2_with fail
      refine bodyPost_ret (v := .tuple #[.slice none 0 0, .int .i64 3]) (by simp [results, Try.results17, go_sem]) rfl ?_
      exact ParsePost.none HP2.out HB.out
    replace hab := Classical.not_not.1 hab
    have m1 : ((at2 : Int) != (inner.length : Int)) = false := by simp; omega
    have m2 : ((at2 : Int) == (inner.length : Int)) = true := by simp; omega
    have ht : (L : Int).tmod 8 = ((L % 8 : Nat) : Int) := by rw [Int.tmod_eq_emod_of_nonneg (by omega)]; omega
    by_cases hm8 : ¬ L % 8 = 0
    · have t1 : ((L : Int).tmod 8 != 0) = true := by rw [ht]; simp; omega
      have t2 : ((L : Int).tmod 8 == 0) = false := by rw [ht]; simp; omega
      have t3 : ((L : Int) % 8 != 0) = true := by simp; omega
      have t4 : ((L : Int) % 8 == 0) = false := by simp; omega
      have t5 : IntKind.i64.wrap ((L : Int).tmod 8) = (L : Int).tmod 8 := by rw [ht, IntKind.wrap_i64]; omega
      have HP2 : Hid (trParse bs = none) := Lib.hid (by rw [HP.out, HL.out, if_neg (fun h => hm8 h.2)])
      clear hab hm8 ht
      go_wp2_with fail
      refine bodyPost_ret (v := .tuple #[.slice none 0 0, .int .i64 3]) (by simp [results, Try.results17, go_sem]) rfl ?_
      exact ParsePost.none HP2.out HB.out
    replace hm8 := Classical.not_not.1 hm8
    have HP := Lib.hid (HP.out.trans (if_pos ⟨hab, by rw [HL.out]; exact hm8⟩))
    obtain ⟨K, hK⟩ : ∃ K, L = 8 * K := ⟨L / 8, by omega⟩
    have t1 : ((L : Int).tmod 8 != 0) = false := by rw [ht]; simp; omega
    have t2 : ((L : Int).tmod 8 == 0) = true := by rw [ht]; simp; omega
    have t3 : ((L : Int) % 8 != 0) = false := by simp; omega
    have t4 : ((L : Int) % 8 == 0) = true := by simp; omega
    have t5 : IntKind.i64.wrap ((L : Int).tmod 8) = (L : Int).tmod 8 := by rw [ht, IntKind.wrap_i64]; omega
    have HK := Lib.hid hK
    have hK1 : K ≤ 100000 := by omega
    obtain ⟨i0, hi0⟩ : ∃ i, Try.prog.info? 48 = some i := ⟨_, rfl⟩
    have hz := evInfo
    rw [hi0] at hz
    simp only [Option.map_some, Option.some.injEq, Prod.mk.injEq] at hz
    obtain ⟨hz0, hz1, hz2⟩ := hz
    clear hab hm8 ht hK
    have HO : Hid (w2.ownsRow w2.heap.size 48 8 (.slice none 0 0) 0 (evV [])) := Lib.hid (World.ownsRow_nil _ _ _ _)
    have HN2 := HN
    have HBW := HB
    have HB := Lib.hid (Below.refl w2.heap.size w2)
    go_wp2_with fail
    clear t1 t2 t3 t4 t5 m1 m2
    go_loopw [10, 11] (fun vl vi wr => ∃ (i : Nat) (ls : List EvV), vi = .int .i64 ((8 * i : Nat) : Int) ∧ i ≤ K ∧ Hid (Rd nums i ls) ∧ ∃ W', W' = wr ∧ Hid (W'.ownsRow w2.heap.size 48 8 vl i (evV ls)) ∧ Hid (Below w2.heap.size w2 W')) (fun _ vi _ => L - (intOf vi).toNat)
    case atStart => exact ⟨0, [], rfl, by omega, Lib.hid (Rd.zero _), _, rfl, HO, HB⟩
    case round =>
      clear HO HB
      obtain ⟨i, ls, rfl, hi, HRD, wr, rfl, HO, HB⟩ := hrel
      by_cases hiK : i < K
      · have h8 : 8 * i + 8 ≤ L := by have := HK.out; omega
        obtain ⟨S, hS⟩ : ∃ S, 8 * i = S := ⟨_, rfl⟩
        have hcell : ∀ j, j < 8 → ∃ b o, qn = some ⟨b, o, none⟩ ∧ b < w2.heap.size ∧ w2.cell? ⟨b, o + (S + j), none⟩ = some (.int .i64 (nums.getD (S + j) 0)) := fun j hj => by
          have hlen : S + j < nums.length := by rw [HL.out]; omega
          obtain ⟨b, o, h1, h2, h3⟩ := HN2.out.cells (S + j) hlen
          exact ⟨b, o, h1, h2, by rw [h3, List.getD_eq_getElem?_getD, List.getElem?_eq_getElem hlen]; rfl⟩
        have hd8 := drop8 nums S (by rw [HL.out]; omega)
        rw [← hS] at hd8
        have hst := HRD.out.step hd8 (by rw [show 8 * (i + 1) = 8 * i + 8 by omega])
        rw [hS] at hst h8 ⊢
        have HS := Lib.hid hS
        clear hd8
        obtain ⟨gb, go, rfl, hgb, -⟩ := hcell 0 (by omega)
        have hcell2 : ∀ j, j < 8 → wr.cell? ⟨gb, go + (S + j), none⟩ = some (.int .i64 (nums.getD (S + j) 0)) := fun j hj => by
          obtain ⟨b, o, h1, h2, h3⟩ := hcell j hj
          simp only [Option.some.injEq, Addr.mk.injEq, and_true] at h1
          obtain ⟨rfl, rfl⟩ := h1
          rw [HB.out.cell (p := ⟨gb, _, none⟩) h2]; exact h3
        clear hcell hS
        obtain ⟨a0, ha0⟩ : ∃ a, nums.getD S 0 = a := ⟨_, rfl⟩
        obtain ⟨a1, ha1⟩ : ∃ a, nums.getD (S + 1) 0 = a := ⟨_, rfl⟩
        obtain ⟨a2, ha2⟩ : ∃ a, nums.getD (S + 2) 0 = a := ⟨_, rfl⟩
        obtain ⟨a3, ha3⟩ : ∃ a, nums.getD (S + 3) 0 = a := ⟨_, rfl⟩
        obtain ⟨a4, ha4⟩ : ∃ a, nums.getD (S + 4) 0 = a := ⟨_, rfl⟩
        obtain ⟨a5, ha5⟩ : ∃ a, nums.getD (S + 5) 0 = a := ⟨_, rfl⟩
        obtain ⟨a6, ha6⟩ : ∃ a, nums.getD (S + 6) 0 = a := ⟨_, rfl⟩
        obtain ⟨a7, ha7⟩ : ∃ a, nums.getD (S + 7) 0 = a := ⟨_, rfl⟩
        have c0 : wr.cell? ⟨gb, go + S, none⟩ = some (.int .i64 a0) := by have := hcell2 0 (by omega); rwa [Nat.add_zero, ha0] at this
        have c1 := hcell2 1 (by omega)
        rw [ha1] at c1
        have c2 := hcell2 2 (by omega)
        rw [ha2] at c2
        have c3 := hcell2 3 (by omega)
        rw [ha3] at c3
        have c4 := hcell2 4 (by omega)
        rw [ha4] at c4
        have c5 := hcell2 5 (by omega)
        rw [ha5] at c5
        have c6 := hcell2 6 (by omega)
        rw [ha6] at c6
        have c7 := hcell2 7 (by omega)
        rw [ha7] at c7
        rw [ha0, ha1, ha2, ha3, ha4, ha5, ha6, ha7] at hst
        have hgw : gb < wr.heap.size := Nat.lt_of_lt_of_le hgb HB.out.size
        have HST := Lib.hid hst
        clear hst hcell2 ha0 ha1 ha2 ha3 ha4 ha5 ha6 ha7
        by_cases h01 : ¬ (a7 = 0 ∨ a7 = 1)
        · have HP2 : Hid (trParse bs = none) := Lib.hid (by rw [HP.out]; exact HST.out.2 (by simpa using h01))
          have z1 : (a7 != 0) = true := by simp; omega
          have z2 : (a7 == 0) = false := by simp; omega
          have z3 : (a7 != 1) = true := by simp; omega
          have z4 : (a7 == 1) = false := by simp; omega
          clear h01
          have HBF := Lib.hid (HBW.out.trans (HB.out.mono HBW.out.size))
          go_wp2_with fail
          refine bodyPost_ret (v := .tuple #[.slice none 0 0, .int .i64 3]) (by simp [results, Try.results17, go_sem]) rfl ?_
          exact ParsePost.none HP2.out HBF.out
        replace h01 := Classical.not_not.1 h01
        obtain ⟨O, hO⟩ : ∃ O, decide (a7 = 1) = O := ⟨_, rfl⟩
        have HRD2 := HST.out.1 (by simpa using h01)
        rw [hO] at HRD2
        have HRD2 := Lib.hid HRD2
        have z5 : (a7 == 1) = O := by rw [← hO]; by_cases h1 : a7 = 1 <;> simp [h1]
        have HZ : Hid ((a7 = 0 ∧ O = false) ∨ (a7 = 1 ∧ O = true)) := Lib.hid (by
          rcases h01 with h | h
          · exact .inl ⟨h, by rw [← hO, h]; decide⟩
          · exact .inr ⟨h, by rw [← hO, h]; decide⟩)
        clear hO HST h01
        have z0 : (a7 != 0 && a7 != 1) = false := by rcases HZ.out with ⟨rfl, _⟩ | ⟨rfl, _⟩ <;> decide
        obtain ⟨X, hX⟩ : ∃ X, X = (wr.alloc (Obj.cells #[.int .i64 a2, .int .i64 a3, .int .i64 a4, .int .i64 a5] 44)).drew := ⟨_, rfl⟩
        have hbx : Below wr.heap.size wr X := by rw [hX]; exact (bel_alloc (Below.refl _ _) _).drew
        have KA : Blk X wr.heap.size 44 #[.int .i64 a2, .int .i64 a3, .int .i64 a4, .int .i64 a5] := by rw [hX]; exact Blk.made _ _ _
        have hS0 : Sx X gb wr.heap.size X := ⟨Nat.lt_of_lt_of_le hgw hbx.size, KA.lt, fun _ => rfl, fun _ => rfl⟩
        obtain ⟨S1, hS1⟩ : ∃ n : Nat, n = S + 1 := ⟨_, rfl⟩
        have wS1 : IntKind.i64.wrap ((S : Int) + 1) = (S1 : Int) := by rw [IntKind.wrap_i64]; omega
        have sS1 : S1 < L := by omega
        obtain ⟨S6, hS6⟩ : ∃ n : Nat, n = S + 6 := ⟨_, rfl⟩
        have wS6 : IntKind.i64.wrap ((S : Int) + 6) = (S6 : Int) := by rw [IntKind.wrap_i64]; omega
        have sS6 : S6 < L := by omega
        obtain ⟨S7, hS7⟩ : ∃ n : Nat, n = S + 7 := ⟨_, rfl⟩
        have wS7 : IntKind.i64.wrap ((S : Int) + 7) = (S7 : Int) := by rw [IntKind.wrap_i64]; omega
        have sS7 : S7 < L := by omega
        have HC : Hid (∀ wq, Sx X gb wr.heap.size wq → (wq.cell? ⟨gb, go + S, none⟩ = some (.int .i64 a0) ∧ wq.cell? ⟨gb, go + S1, none⟩ = some (.int .i64 a1) ∧ wq.cell? ⟨gb, go + S6, none⟩ = some (.int .i64 a6) ∧ wq.cell? ⟨gb, go + S7, none⟩ = some (.int .i64 a7)) ∧ wq.cell? ⟨wr.heap.size, 0, none⟩ = some (.int .i64 a2) ∧ wq.cell? ⟨wr.heap.size, 1, none⟩ = some (.int .i64 a3) ∧ wq.cell? ⟨wr.heap.size, 2, none⟩ = some (.int .i64 a4) ∧ wq.cell? ⟨wr.heap.size, 3, none⟩ = some (.int .i64 a5)) := Lib.hid (fun wq h => by
          have hx : ∀ o v, wr.cell? ⟨gb, o, none⟩ = some v → wq.cell? ⟨gb, o, none⟩ = some v := fun o v hv => by rw [h.2.2.1, hbx.cell (p := ⟨gb, o, none⟩) hgw]; exact hv
          exact ⟨⟨hx _ _ c0, hx _ _ (by rw [hS1]; exact c1), hx _ _ (by rw [hS6]; exact c6), hx _ _ (by rw [hS7]; exact c7)⟩, by rw [h.2.2.2]; exact KA.cell 0, by rw [h.2.2.2]; exact KA.cell 1, by rw [h.2.2.2]; exact KA.cell 2, by rw [h.2.2.2]; exact KA.cell 3⟩)
        have hown0 : ∀ q, (u10 : Value).ownBlock = some q → w2.heap.size ≤ q ∧ q < wr.heap.size := fun q hq => HO.out.lt q hq
        have HOW := Lib.hid hown0
        have HGB : Hid (gb < w2.heap.size) := Lib.hid hgb
        have HO := Lib.hid (own_below HO.out hbx)
        have HB := Lib.hid (HB.out.trans (hbx.mono HB.out.size))
        have HWS := Lib.hid (And.intro wS1 (And.intro wS6 wS7))
        have HSS := Lib.hid (And.intro sS1 (And.intro sS6 sS7))
        clear wS1 wS6 wS7 sS1 sS6 sS7 hS1 hS6 hS7
        have HS0 := Lib.hid hS0
        have HX : Hid (X = (wr.alloc (Obj.cells #[.int .i64 a2, .int .i64 a3, .int .i64 a4, .int .i64 a5] 44)).drew) := Lib.hid hX
        clear hX hbx KA hS0 hown0
        rcases HZ.out with ⟨ea, eo⟩ | ⟨ea, eo⟩
        · subst ea eo
          clear z5 z0
          go_wp2_with fail
          go_region
          go_wp2_with fail
          rw [← HX.out]
          clear c0 c1 c2 c3 c4 c5 c6 c7 HX hgb hgw
          have s0 : S < L := by omega
          obtain ⟨wS1, wS6, wS7⟩ := HWS.out
          obtain ⟨sS1, sS6, sS7⟩ := HSS.out
          refine wp_region_noPanic ?_
          refine wp_region_held (S := Sx X gb wr.heap.size) (by kernel_rfl) ?_
          change wpAnyH _ _ _ _ _ _ _ _ (World.drew _)
          refine takeH_n (i := 0) (v := ?v0false) rfl (by kernel_rfl) (by kernel_rfl) (by kernel_rfl) (fun _ _ _ h => h) (Or.inl ⟨by rfl, ?hy0false⟩) ?hS0false (fun a' ha => ?rest0false)
          case hy0false => (intro wq hS; go_simp; try with_reducible rfl)
          case hS0false => exact HS0.out.drew
          simp [go_sem] at ha
          subst ha
          refine takeH_n (i := 1) (v := ?v1false) rfl (by kernel_rfl) (by kernel_rfl) (by kernel_rfl) (fun _ _ _ h => h) (Or.inl ⟨by rfl, ?hy1false⟩) ?hS1false (fun a' ha => ?rest1false)
          case hy1false => (intro wq hS; go_simp; try with_reducible rfl)
          case hS1false => exact HS0.out.drew
          simp [go_sem] at ha
          subst ha
          refine takeH_n (i := 2) (v := ?v2false) rfl (by kernel_rfl) (by kernel_rfl) (by kernel_rfl) (fun _ _ _ h => h) (Or.inl ⟨by rfl, ?hy2false⟩) ?hS2false (fun a' ha => ?rest2false)
          case hy2false => (intro wq hS; go_simp; try with_reducible rfl)
          case hS2false => exact HS0.out.drew
          simp [go_sem] at ha
          subst ha
          refine takeH_n (i := 3) (v := ?v3false) rfl (by kernel_rfl) (by kernel_rfl) (by kernel_rfl) (fun _ _ _ h => h) (Or.inl ⟨by rfl, ?hy3false⟩) ?hS3false (fun a' ha => ?rest3false)
          case hy3false => (intro wq hS; go_simp; try with_reducible rfl)
          case hS3false => exact HS0.out.drew
          simp [go_sem] at ha
          subst ha
          refine takeH_n (i := 4) (v := ?v4false) rfl (by kernel_rfl) (by kernel_rfl) (by kernel_rfl) (fun _ _ _ h => h) (Or.inl ⟨by rfl, ?hy4false⟩) ?hS4false (fun a' ha => ?rest4false)
          case hy4false => (intro wq hS; obtain ⟨⟨q0, q1, q6, q7⟩, q2, q3, q4, q5⟩ := HC.out wq hS; go_simp; try with_reducible rfl)
          case hS4false => exact HS0.out.drew
          simp [go_sem] at ha
          subst ha
          refine takeH_n (i := 5) (v := ?v5false) rfl (by kernel_rfl) (by kernel_rfl) (by kernel_rfl) (fun _ _ _ h => h) (Or.inl ⟨by rfl, ?hy5false⟩) ?hS5false (fun a' ha => ?rest5false)
          case hy5false => (intro wq hS; go_simp; try with_reducible rfl)
          case hS5false => exact HS0.out.drew
          simp [go_sem] at ha
          subst ha
          refine takeH_n (i := 6) (v := ?v6false) rfl (by kernel_rfl) (by kernel_rfl) (by kernel_rfl) (fun _ _ _ h => h) (Or.inl ⟨by rfl, ?hy6false⟩) ?hS6false (fun a' ha => ?rest6false)
          case hy6false => (intro wq hS; go_simp; try with_reducible rfl)
          case hS6false => exact HS0.out.drew
          simp [go_sem] at ha
          subst ha
          refine takeH_n (i := 7) (v := ?v7false) rfl (by kernel_rfl) (by kernel_rfl) (by kernel_rfl) (fun _ _ _ h => h) (Or.inl ⟨by rfl, ?hy7false⟩) ?hS7false (fun a' ha => ?rest7false)
          case hy7false => (intro wq hS; go_simp; try with_reducible rfl)
          case hS7false => exact HS0.out.drew
          simp [go_sem] at ha
          subst ha
          refine takeH_n (i := 8) (v := ?v8false) rfl (by kernel_rfl) (by kernel_rfl) (by kernel_rfl) (fun _ _ _ h => h) (Or.inl ⟨by rfl, ?hy8false⟩) ?hS8false (fun a' ha => ?rest8false)
          case hy8false => (intro wq hS; go_simp; try with_reducible rfl)
          case hS8false => exact HS0.out.drew
          simp [go_sem] at ha
          subst ha
          refine takeH_n (i := 9) (v := ?v9false) rfl (by kernel_rfl) (by kernel_rfl) (by kernel_rfl) (fun _ _ _ h => h) (Or.inl ⟨by rfl, ?hy9false⟩) ?hS9false (fun a' ha => ?rest9false)
          case hy9false => (intro wq hS; obtain ⟨⟨q0, q1, q6, q7⟩, q2, q3, q4, q5⟩ := HC.out wq hS; go_simp; try with_reducible rfl)
          case hS9false => exact HS0.out.drew
          simp [go_sem] at ha
          subst ha
          refine takeH_n (i := 10) (v := ?v10false) rfl (by kernel_rfl) (by kernel_rfl) (by kernel_rfl) (fun _ _ _ h => h) (Or.inl ⟨by rfl, ?hy10false⟩) ?hS10false (fun a' ha => ?rest10false)
          case hy10false => (intro wq hS; obtain ⟨⟨q0, q1, q6, q7⟩, q2, q3, q4, q5⟩ := HC.out wq hS; go_simp; try with_reducible rfl)
          case hS10false => exact HS0.out.drew
          simp [go_sem] at ha
          subst ha
          refine takeH_n (i := 11) (v := ?v11false) rfl (by kernel_rfl) (by kernel_rfl) (by kernel_rfl) (fun _ _ _ h => h) (Or.inl ⟨by rfl, ?hy11false⟩) ?hS11false (fun a' ha => ?rest11false)
          case hy11false => (intro wq hS; go_simp; try with_reducible rfl)
          case hS11false => exact HS0.out.drew
          simp [go_sem] at ha
          subst ha
          refine takeH_n (i := 12) (v := ?v12false) rfl (by kernel_rfl) (by kernel_rfl) (by kernel_rfl) (fun _ _ _ h => h) (Or.inl ⟨by rfl, ?hy12false⟩) ?hS12false (fun a' ha => ?rest12false)
          case hy12false => (intro wq hS; go_simp; try with_reducible rfl)
          case hS12false => exact HS0.out.drew
          simp [go_sem] at ha
          subst ha
          refine takeH_n (i := 13) (v := ?v13false) rfl (by kernel_rfl) (by kernel_rfl) (by kernel_rfl) (fun _ _ _ h => h) (Or.inl ⟨by rfl, ?hy13false⟩) ?hS13false (fun a' ha => ?rest13false)
          case hy13false => (intro wq hS; go_simp; try with_reducible rfl)
          case hS13false => exact HS0.out.drew
          simp [go_sem] at ha
          subst ha
          refine takeH_n (i := 14) (v := ?v14false) rfl (by kernel_rfl) (by kernel_rfl) (by kernel_rfl) (fun _ _ _ h => h) (Or.inl ⟨by rfl, ?hy14false⟩) ?hS14false (fun a' ha => ?rest14false)
          case hy14false => (intro wq hS; go_simp; try with_reducible rfl)
          case hS14false => exact HS0.out.drew
          simp [go_sem] at ha
          subst ha
          refine takeH_n (i := 15) (v := ?v15false) rfl (by kernel_rfl) (by kernel_rfl) (by kernel_rfl) (fun _ _ _ h => h) (Or.inl ⟨by rfl, ?hy15false⟩) ?hS15false (fun a' ha => ?rest15false)
          case hy15false => (intro wq hS; obtain ⟨⟨q0, q1, q6, q7⟩, q2, q3, q4, q5⟩ := HC.out wq hS; go_simp; try with_reducible rfl)
          case hS15false => exact HS0.out.drew
          simp [go_sem] at ha
          subst ha
          refine takeH_n (i := 16) (v := ?v16false) rfl (by kernel_rfl) (by kernel_rfl) (by kernel_rfl) (fun _ _ _ h => h) (Or.inl ⟨by rfl, ?hy16false⟩) ?hS16false (fun a' ha => ?rest16false)
          case hy16false => (intro wq hS; go_simp; try with_reducible rfl)
          case hS16false => exact HS0.out.drew
          simp [go_sem] at ha
          subst ha
          refine takeH_n (i := 17) (v := ?v17false) rfl (by kernel_rfl) (by kernel_rfl) (by kernel_rfl) (fun _ _ _ h => h) (Or.inl ⟨by rfl, ?hy17false⟩) ?hS17false (fun a' ha => ?rest17false)
          case hy17false => (intro wq hS; go_simp; try with_reducible rfl)
          case hS17false => exact HS0.out.drew
          simp [go_sem] at ha
          subst ha
          refine takeH_n (i := 18) (v := ?v18false) rfl (by kernel_rfl) (by kernel_rfl) (by kernel_rfl) (fun _ _ _ h => h) (Or.inl ⟨by rfl, ?hy18false⟩) ?hS18false (fun a' ha => ?rest18false)
          case hy18false => (intro wq hS; go_simp; try with_reducible rfl)
          case hS18false => exact HS0.out.drew
          simp [go_sem] at ha
          subst ha
          refine takeH_n (i := 19) (v := ?v19false) rfl (by kernel_rfl) (by kernel_rfl) (by kernel_rfl) (fun _ _ _ h => h) (Or.inl ⟨by rfl, ?hy19false⟩) ?hS19false (fun a' ha => ?rest19false)
          case hy19false => (intro wq hS; go_simp; try with_reducible rfl)
          case hS19false => exact HS0.out.drew
          simp [go_sem] at ha
          subst ha
          refine takeH_n (i := 20) (v := ?v20false) rfl (by kernel_rfl) (by kernel_rfl) (by kernel_rfl) (fun _ _ _ h => h) (Or.inl ⟨by rfl, ?hy20false⟩) ?hS20false (fun a' ha => ?rest20false)
          case hy20false => (intro wq hS; obtain ⟨⟨q0, q1, q6, q7⟩, q2, q3, q4, q5⟩ := HC.out wq hS; go_simp; try with_reducible rfl)
          case hS20false => exact HS0.out.drew
          simp [go_sem] at ha
          subst ha
          refine takeH_n (i := 21) (v := ?v21false) rfl (by kernel_rfl) (by kernel_rfl) (by kernel_rfl) (fun _ _ _ h => h) (Or.inl ⟨by rfl, ?hy21false⟩) ?hS21false (fun a' ha => ?rest21false)
          case hy21false => (intro wq hS; go_simp; try with_reducible rfl)
          case hS21false => exact HS0.out.drew
          simp [go_sem] at ha
          subst ha
          refine takeH_n (i := 22) (v := ?v22false) rfl (by kernel_rfl) (by kernel_rfl) (by kernel_rfl) (fun _ _ _ h => h) (Or.inl ⟨by rfl, ?hy22false⟩) ?hS22false (fun a' ha => ?rest22false)
          case hy22false => (intro wq hS; go_simp; try with_reducible rfl)
          case hS22false => exact HS0.out.drew
          simp [go_sem] at ha
          subst ha
          refine takeH_n (i := 23) (v := ?v23false) rfl (by kernel_rfl) (by kernel_rfl) (by kernel_rfl) (fun _ _ _ h => h) (Or.inl ⟨by rfl, ?hy23false⟩) ?hS23false (fun a' ha => ?rest23false)
          case hy23false => (intro wq hS; go_simp; try with_reducible rfl)
          case hS23false => exact HS0.out.drew
          simp [go_sem] at ha
          subst ha
          obtain ⟨V2, hV2⟩ : ∃ V2, V2 = (X.alloc (Obj.cells #[.int .i64 a0, .int .i64 a1, .int .i64 a2, .int .i64 a3, .int .i64 a4, .int .i64 a5, .int .i64 a6, .bool false] 48)).drew := ⟨_, rfl⟩
          have hbv : Below X.heap.size X V2 := by rw [hV2]; exact (bel_alloc (Below.refl _ _) _).drew
          have HNW : Hid (∀ q u, ([.int .i64 a0, .int .i64 a1, .int .i64 a2, .int .i64 a3, .int .i64 a4, .int .i64 a5, .int .i64 a6, .bool false] : List Value)[q]? = some u → V2.cell? ((⟨X.heap.size, 0, none⟩ : Addr).add q) = some u) := Lib.hid (by
            intro q u hu
            rw [addr_add, Nat.zero_add, hV2]
            show (X.alloc _).cell? _ = _
            rw [(Blk.made X _ _).cell]
            simpa using hu)
          have HO2 := Lib.hid (own_below HO.out hbv)
          have HB2 := Lib.hid (HB.out.trans (hbv.mono HB.out.size))
          have HS2 : Hid (Sx X gb wr.heap.size V2) := Lib.hid (by rw [hV2]; exact (HS0.out.alloc _).drew)
          have HV2 := Lib.hid hV2
          clear hV2 hbv HO HB HC HWS HSS wS1 wS6 wS7 sS1 sS6 sS7 s0
          refine anyH_one (i := 24) rfl (by kernel_rfl) (fun K hK => ?_)
          go_simp
          rw [← HV2.out]
          refine hK.out _ _ HS2.out ?_
          clear hK K
          refine anyH_one (i := 25) rfl (by kernel_rfl) (fun K hK => ?_)
          rw [if_pos (by simp [Region.wanted])]
          refine wp_append_own V2 (.tmp 89) (.tmp 113) _ rfl w2.heap.size 48 i0 _ 8 64 Try.underlying22 hi0 hz0 hz1 hz2 rfl (by omega) _ i _ rfl HO2.out ⟨X.heap.size, 0, none⟩ 1 1 [.int .i64 a0, .int .i64 a1, .int .i64 a2, .int .i64 a3, .int .i64 a4, .int .i64 a5, .int .i64 a6, .bool false] rfl rfl HNW.out (by simp [Value.oneCell']) (by unfold maxLen; omega) (by omega) HB2.out.size ?_
          intro v6 w6 hown hg _
          have hg2 : World.grownBy V2 w6 (Value.ownBlock u10) := hg
          have HS6 : Hid (Sx X gb wr.heap.size w6) := Lib.hid (HS2.out.grown hg2 (fun e => by have := HOW.out _ e; have := HGB.out; omega) (fun e => by have := HOW.out _ e; omega))
          have HO6 : Hid (w6.ownsRow w2.heap.size 48 8 v6 (i + 1) (evV (ls ++ [⟨a0, a1, a2, a3, a4, a5, a6, false⟩]))) := Lib.hid (by rw [evV_snoc]; exact hown)
          have HB6 := Lib.hid (below_gb HB2.out hg2 HB2.out.size (fun q hq => (HOW.out q hq).1))
          clear hown hg hg2
          refine hK.out _ _ HS6.out ?_
          clear hK K HO2 HB2 HNW HV2 HOW HS2 HS0 HGB
          refine takeH_n (i := 26) (v := ?v26false) rfl (by kernel_rfl) (by kernel_rfl) (by kernel_rfl) (fun _ _ _ h => h) (Or.inl ⟨by rfl, ?hy26false⟩) ?hS26false (fun a' ha => ?rest26false)
          case hy26false => (intro wq hS; go_simp; try with_reducible rfl)
          case hS26false => exact HS6.out
          simp [go_sem] at ha
          subst ha
          refine wpAnyH_done (by kernel_rfl) ?_ _
          refine NoPanic.normal ?_
          go_wp2_with fail
          go_roundw
          case rel => exact ⟨i + 1, _, by have := HS.out; simp; omega, by omega, HRD2, _, rfl, HO6, HB6⟩
          case measure => have := HS.out; simp [intOf]; omega
        · subst ea eo
          clear z5 z0
          go_wp2_with fail
          go_region
          go_wp2_with fail
          rw [← HX.out]
          clear c0 c1 c2 c3 c4 c5 c6 c7 HX hgb hgw
          have s0 : S < L := by omega
          obtain ⟨wS1, wS6, wS7⟩ := HWS.out
          obtain ⟨sS1, sS6, sS7⟩ := HSS.out
          refine wp_region_noPanic ?_
          refine wp_region_held (S := Sx X gb wr.heap.size) (by kernel_rfl) ?_
          change wpAnyH _ _ _ _ _ _ _ _ (World.drew _)
          refine takeH_n (i := 0) (v := ?v0true) rfl (by kernel_rfl) (by kernel_rfl) (by kernel_rfl) (fun _ _ _ h => h) (Or.inl ⟨by rfl, ?hy0true⟩) ?hS0true (fun a' ha => ?rest0true)
          case hy0true => (intro wq hS; go_simp; try with_reducible rfl)
          case hS0true => exact HS0.out.drew
          simp [go_sem] at ha
          subst ha
          refine takeH_n (i := 1) (v := ?v1true) rfl (by kernel_rfl) (by kernel_rfl) (by kernel_rfl) (fun _ _ _ h => h) (Or.inl ⟨by rfl, ?hy1true⟩) ?hS1true (fun a' ha => ?rest1true)
          case hy1true => (intro wq hS; go_simp; try with_reducible rfl)
          case hS1true => exact HS0.out.drew
          simp [go_sem] at ha
          subst ha
          refine takeH_n (i := 2) (v := ?v2true) rfl (by kernel_rfl) (by kernel_rfl) (by kernel_rfl) (fun _ _ _ h => h) (Or.inl ⟨by rfl, ?hy2true⟩) ?hS2true (fun a' ha => ?rest2true)
          case hy2true => (intro wq hS; go_simp; try with_reducible rfl)
          case hS2true => exact HS0.out.drew
          simp [go_sem] at ha
          subst ha
          refine takeH_n (i := 3) (v := ?v3true) rfl (by kernel_rfl) (by kernel_rfl) (by kernel_rfl) (fun _ _ _ h => h) (Or.inl ⟨by rfl, ?hy3true⟩) ?hS3true (fun a' ha => ?rest3true)
          case hy3true => (intro wq hS; go_simp; try with_reducible rfl)
          case hS3true => exact HS0.out.drew
          simp [go_sem] at ha
          subst ha
          refine takeH_n (i := 4) (v := ?v4true) rfl (by kernel_rfl) (by kernel_rfl) (by kernel_rfl) (fun _ _ _ h => h) (Or.inl ⟨by rfl, ?hy4true⟩) ?hS4true (fun a' ha => ?rest4true)
          case hy4true => (intro wq hS; obtain ⟨⟨q0, q1, q6, q7⟩, q2, q3, q4, q5⟩ := HC.out wq hS; go_simp; try with_reducible rfl)
          case hS4true => exact HS0.out.drew
          simp [go_sem] at ha
          subst ha
          refine takeH_n (i := 5) (v := ?v5true) rfl (by kernel_rfl) (by kernel_rfl) (by kernel_rfl) (fun _ _ _ h => h) (Or.inl ⟨by rfl, ?hy5true⟩) ?hS5true (fun a' ha => ?rest5true)
          case hy5true => (intro wq hS; go_simp; try with_reducible rfl)
          case hS5true => exact HS0.out.drew
          simp [go_sem] at ha
          subst ha
          refine takeH_n (i := 6) (v := ?v6true) rfl (by kernel_rfl) (by kernel_rfl) (by kernel_rfl) (fun _ _ _ h => h) (Or.inl ⟨by rfl, ?hy6true⟩) ?hS6true (fun a' ha => ?rest6true)
          case hy6true => (intro wq hS; go_simp; try with_reducible rfl)
          case hS6true => exact HS0.out.drew
          simp [go_sem] at ha
          subst ha
          refine takeH_n (i := 7) (v := ?v7true) rfl (by kernel_rfl) (by kernel_rfl) (by kernel_rfl) (fun _ _ _ h => h) (Or.inl ⟨by rfl, ?hy7true⟩) ?hS7true (fun a' ha => ?rest7true)
          case hy7true => (intro wq hS; go_simp; try with_reducible rfl)
          case hS7true => exact HS0.out.drew
          simp [go_sem] at ha
          subst ha
          refine takeH_n (i := 8) (v := ?v8true) rfl (by kernel_rfl) (by kernel_rfl) (by kernel_rfl) (fun _ _ _ h => h) (Or.inl ⟨by rfl, ?hy8true⟩) ?hS8true (fun a' ha => ?rest8true)
          case hy8true => (intro wq hS; go_simp; try with_reducible rfl)
          case hS8true => exact HS0.out.drew
          simp [go_sem] at ha
          subst ha
          refine takeH_n (i := 9) (v := ?v9true) rfl (by kernel_rfl) (by kernel_rfl) (by kernel_rfl) (fun _ _ _ h => h) (Or.inl ⟨by rfl, ?hy9true⟩) ?hS9true (fun a' ha => ?rest9true)
          case hy9true => (intro wq hS; obtain ⟨⟨q0, q1, q6, q7⟩, q2, q3, q4, q5⟩ := HC.out wq hS; go_simp; try with_reducible rfl)
          case hS9true => exact HS0.out.drew
          simp [go_sem] at ha
          subst ha
          refine takeH_n (i := 10) (v := ?v10true) rfl (by kernel_rfl) (by kernel_rfl) (by kernel_rfl) (fun _ _ _ h => h) (Or.inl ⟨by rfl, ?hy10true⟩) ?hS10true (fun a' ha => ?rest10true)
          case hy10true => (intro wq hS; obtain ⟨⟨q0, q1, q6, q7⟩, q2, q3, q4, q5⟩ := HC.out wq hS; go_simp; try with_reducible rfl)
          case hS10true => exact HS0.out.drew
          simp [go_sem] at ha
          subst ha
          refine takeH_n (i := 11) (v := ?v11true) rfl (by kernel_rfl) (by kernel_rfl) (by kernel_rfl) (fun _ _ _ h => h) (Or.inl ⟨by rfl, ?hy11true⟩) ?hS11true (fun a' ha => ?rest11true)
          case hy11true => (intro wq hS; go_simp; try with_reducible rfl)
          case hS11true => exact HS0.out.drew
          simp [go_sem] at ha
          subst ha
          refine takeH_n (i := 12) (v := ?v12true) rfl (by kernel_rfl) (by kernel_rfl) (by kernel_rfl) (fun _ _ _ h => h) (Or.inl ⟨by rfl, ?hy12true⟩) ?hS12true (fun a' ha => ?rest12true)
          case hy12true => (intro wq hS; go_simp; try with_reducible rfl)
          case hS12true => exact HS0.out.drew
          simp [go_sem] at ha
          subst ha
          refine takeH_n (i := 13) (v := ?v13true) rfl (by kernel_rfl) (by kernel_rfl) (by kernel_rfl) (fun _ _ _ h => h) (Or.inl ⟨by rfl, ?hy13true⟩) ?hS13true (fun a' ha => ?rest13true)
          case hy13true => (intro wq hS; go_simp; try with_reducible rfl)
          case hS13true => exact HS0.out.drew
          simp [go_sem] at ha
          subst ha
          refine takeH_n (i := 14) (v := ?v14true) rfl (by kernel_rfl) (by kernel_rfl) (by kernel_rfl) (fun _ _ _ h => h) (Or.inl ⟨by rfl, ?hy14true⟩) ?hS14true (fun a' ha => ?rest14true)
          case hy14true => (intro wq hS; go_simp; try with_reducible rfl)
          case hS14true => exact HS0.out.drew
          simp [go_sem] at ha
          subst ha
          refine takeH_n (i := 15) (v := ?v15true) rfl (by kernel_rfl) (by kernel_rfl) (by kernel_rfl) (fun _ _ _ h => h) (Or.inl ⟨by rfl, ?hy15true⟩) ?hS15true (fun a' ha => ?rest15true)
          case hy15true => (intro wq hS; obtain ⟨⟨q0, q1, q6, q7⟩, q2, q3, q4, q5⟩ := HC.out wq hS; go_simp; try with_reducible rfl)
          case hS15true => exact HS0.out.drew
          simp [go_sem] at ha
          subst ha
          refine takeH_n (i := 16) (v := ?v16true) rfl (by kernel_rfl) (by kernel_rfl) (by kernel_rfl) (fun _ _ _ h => h) (Or.inl ⟨by rfl, ?hy16true⟩) ?hS16true (fun a' ha => ?rest16true)
          case hy16true => (intro wq hS; go_simp; try with_reducible rfl)
          case hS16true => exact HS0.out.drew
          simp [go_sem] at ha
          subst ha
          refine takeH_n (i := 17) (v := ?v17true) rfl (by kernel_rfl) (by kernel_rfl) (by kernel_rfl) (fun _ _ _ h => h) (Or.inl ⟨by rfl, ?hy17true⟩) ?hS17true (fun a' ha => ?rest17true)
          case hy17true => (intro wq hS; go_simp; try with_reducible rfl)
          case hS17true => exact HS0.out.drew
          simp [go_sem] at ha
          subst ha
          refine takeH_n (i := 18) (v := ?v18true) rfl (by kernel_rfl) (by kernel_rfl) (by kernel_rfl) (fun _ _ _ h => h) (Or.inl ⟨by rfl, ?hy18true⟩) ?hS18true (fun a' ha => ?rest18true)
          case hy18true => (intro wq hS; go_simp; try with_reducible rfl)
          case hS18true => exact HS0.out.drew
          simp [go_sem] at ha
          subst ha
          refine takeH_n (i := 19) (v := ?v19true) rfl (by kernel_rfl) (by kernel_rfl) (by kernel_rfl) (fun _ _ _ h => h) (Or.inl ⟨by rfl, ?hy19true⟩) ?hS19true (fun a' ha => ?rest19true)
          case hy19true => (intro wq hS; go_simp; try with_reducible rfl)
          case hS19true => exact HS0.out.drew
          simp [go_sem] at ha
          subst ha
          refine takeH_n (i := 20) (v := ?v20true) rfl (by kernel_rfl) (by kernel_rfl) (by kernel_rfl) (fun _ _ _ h => h) (Or.inl ⟨by rfl, ?hy20true⟩) ?hS20true (fun a' ha => ?rest20true)
          case hy20true => (intro wq hS; obtain ⟨⟨q0, q1, q6, q7⟩, q2, q3, q4, q5⟩ := HC.out wq hS; go_simp; try with_reducible rfl)
          case hS20true => exact HS0.out.drew
          simp [go_sem] at ha
          subst ha
          refine takeH_n (i := 21) (v := ?v21true) rfl (by kernel_rfl) (by kernel_rfl) (by kernel_rfl) (fun _ _ _ h => h) (Or.inl ⟨by rfl, ?hy21true⟩) ?hS21true (fun a' ha => ?rest21true)
          case hy21true => (intro wq hS; go_simp; try with_reducible rfl)
          case hS21true => exact HS0.out.drew
          simp [go_sem] at ha
          subst ha
          refine takeH_n (i := 22) (v := ?v22true) rfl (by kernel_rfl) (by kernel_rfl) (by kernel_rfl) (fun _ _ _ h => h) (Or.inl ⟨by rfl, ?hy22true⟩) ?hS22true (fun a' ha => ?rest22true)
          case hy22true => (intro wq hS; go_simp; try with_reducible rfl)
          case hS22true => exact HS0.out.drew
          simp [go_sem] at ha
          subst ha
          refine takeH_n (i := 23) (v := ?v23true) rfl (by kernel_rfl) (by kernel_rfl) (by kernel_rfl) (fun _ _ _ h => h) (Or.inl ⟨by rfl, ?hy23true⟩) ?hS23true (fun a' ha => ?rest23true)
          case hy23true => (intro wq hS; go_simp; try with_reducible rfl)
          case hS23true => exact HS0.out.drew
          simp [go_sem] at ha
          subst ha
          obtain ⟨V2, hV2⟩ : ∃ V2, V2 = (X.alloc (Obj.cells #[.int .i64 a0, .int .i64 a1, .int .i64 a2, .int .i64 a3, .int .i64 a4, .int .i64 a5, .int .i64 a6, .bool true] 48)).drew := ⟨_, rfl⟩
          have hbv : Below X.heap.size X V2 := by rw [hV2]; exact (bel_alloc (Below.refl _ _) _).drew
          have HNW : Hid (∀ q u, ([.int .i64 a0, .int .i64 a1, .int .i64 a2, .int .i64 a3, .int .i64 a4, .int .i64 a5, .int .i64 a6, .bool true] : List Value)[q]? = some u → V2.cell? ((⟨X.heap.size, 0, none⟩ : Addr).add q) = some u) := Lib.hid (by
            intro q u hu
            rw [addr_add, Nat.zero_add, hV2]
            show (X.alloc _).cell? _ = _
            rw [(Blk.made X _ _).cell]
            simpa using hu)
          have HO2 := Lib.hid (own_below HO.out hbv)
          have HB2 := Lib.hid (HB.out.trans (hbv.mono HB.out.size))
          have HS2 : Hid (Sx X gb wr.heap.size V2) := Lib.hid (by rw [hV2]; exact (HS0.out.alloc _).drew)
          have HV2 := Lib.hid hV2
          clear hV2 hbv HO HB HC HWS HSS wS1 wS6 wS7 sS1 sS6 sS7 s0
          refine anyH_one (i := 24) rfl (by kernel_rfl) (fun K hK => ?_)
          go_simp
          rw [← HV2.out]
          refine hK.out _ _ HS2.out ?_
          clear hK K
          refine anyH_one (i := 25) rfl (by kernel_rfl) (fun K hK => ?_)
          rw [if_pos (by simp [Region.wanted])]
          refine wp_append_own V2 (.tmp 89) (.tmp 113) _ rfl w2.heap.size 48 i0 _ 8 64 Try.underlying22 hi0 hz0 hz1 hz2 rfl (by omega) _ i _ rfl HO2.out ⟨X.heap.size, 0, none⟩ 1 1 [.int .i64 a0, .int .i64 a1, .int .i64 a2, .int .i64 a3, .int .i64 a4, .int .i64 a5, .int .i64 a6, .bool true] rfl rfl HNW.out (by simp [Value.oneCell']) (by unfold maxLen; omega) (by omega) HB2.out.size ?_
          intro v6 w6 hown hg _
          have hg2 : World.grownBy V2 w6 (Value.ownBlock u10) := hg
          have HS6 : Hid (Sx X gb wr.heap.size w6) := Lib.hid (HS2.out.grown hg2 (fun e => by have := HOW.out _ e; have := HGB.out; omega) (fun e => by have := HOW.out _ e; omega))
          have HO6 : Hid (w6.ownsRow w2.heap.size 48 8 v6 (i + 1) (evV (ls ++ [⟨a0, a1, a2, a3, a4, a5, a6, true⟩]))) := Lib.hid (by rw [evV_snoc]; exact hown)
          have HB6 := Lib.hid (below_gb HB2.out hg2 HB2.out.size (fun q hq => (HOW.out q hq).1))
          clear hown hg hg2
          refine hK.out _ _ HS6.out ?_
          clear hK K HO2 HB2 HNW HV2 HOW HS2 HS0 HGB
          refine takeH_n (i := 26) (v := ?v26true) rfl (by kernel_rfl) (by kernel_rfl) (by kernel_rfl) (fun _ _ _ h => h) (Or.inl ⟨by rfl, ?hy26true⟩) ?hS26true (fun a' ha => ?rest26true)
          case hy26true => (intro wq hS; go_simp; try with_reducible rfl)
          case hS26true => exact HS6.out
          simp [go_sem] at ha
          subst ha
          refine wpAnyH_done (by kernel_rfl) ?_ _
          refine NoPanic.normal ?_
          go_wp2_with fail
          go_roundw
          case rel => exact ⟨i + 1, _, by have := HS.out; simp; omega, by omega, HRD2, _, rfl, HO6, HB6⟩
          case measure => have := HS.out; simp [intOf]; omega
      · obtain rfl : i = K := by omega
        have HD := Lib.hid (HRD.out.done (by rw [HL.out]; have := HK.out; omega))
        have HIN := Lib.hid (evRows_in nums ls HN2.out.rng HD.out)
        have HLS := Lib.hid HRD.out.1
        have HBF := Lib.hid (HBW.out.trans (HB.out.mono HBW.out.size))
        have hex : ¬ (8 * i + 7 < L) := by have := HK.out; omega
        obtain ⟨S, hS⟩ : ∃ S, 8 * i = S := ⟨_, rfl⟩
        have hSb : S ≤ 100000 := by have := HK.out; omega
        rw [hS] at hex ⊢
        obtain ⟨vv, hvv⟩ : ∃ v, v = u10 := ⟨_, rfl⟩
        rw [← hvv] at HO ⊢
        have hfin : ∀ q c, vv = .slice q i c → ParsePost w bs (.returned (.tuple #[.slice q i c, .int .i64 0])) wr := fun q c hv => by
          have ho := HO.out
          rw [hv] at ho
          refine ⟨ls, q, c, 0, (fun h => by rw [HP.out, HD.out] at h; cases h), (fun x hx => by rw [HP.out, HD.out] at hx; injection hx with hx; exact ⟨hx, rfl⟩), ?_, by rw [HLS.out], ⟨Evs.of_own ho, HIN.out.1⟩, HBF.out⟩
          have := HIN.out.2
          rw [HL.out] at this
          have := HBL.out
          omega
        have HFIN := Lib.hid hfin
        have hform : ∃ q c, vv = .slice q i c := by
          rcases HO.out.2 with ⟨h1, h2⟩ | ⟨gg, cp, cur, h1, _⟩
          · exact ⟨none, 0, by rw [h1, h2]⟩
          · exact ⟨_, cp, h1⟩
        obtain ⟨q8, c8, hq8⟩ := hform
        have HSS := Lib.hid hS
        clear hfin HO hvv hS
        subst hq8
        go_wp2_with fail
        refine bodyPost_ret (v := .tuple #[.slice q8 i c8, .int .i64 0]) (by simp [results, Try.results17, go_sem]) rfl ?_
        exact HFIN.out _ _ rfl
end Go.Proofs.Ytbfbfpjfmdannaa
