/-
  WORD: the walk of the law WordTurns.
-/
import Derived.Test.YtkdcmppkfgdjmaaWordS
import Derived.Test.YtkdcmppkfgdjmaaAfter
import Derived.Test.YtkdcmppkfgdjmaaTail
import Derived.Test.YtkdcmppkfgdjmaaRow
namespace Go.Proofs.Ytkdcmppkfgdjmaa
open Go.ChangeShapes Go.WideShapes Go.ChangeAt Go.RowKit

/-- a pointer in a variable -/
def RefAt (w : World) (b : Nat) (i : Int) (m : Bool) (c : Int) : Prop :=
  w.cell? ⟨b, 0, none⟩ = some (.int .i64 i) ∧ w.cell? ⟨b, 1, none⟩ = some (.bool m) ∧ w.cell? ⟨b, 2, none⟩ = some (.int .i64 c)

theorem RefAt.after {W : World} {b : Nat} {i c : Int} {m : Bool} (h : RefAt W b i m c) (hb : b < W.heap.size) (y : After W) : RefAt y.w b i m c :=
  ⟨by rw [y.cell hb]; exact h.1, by rw [y.cell hb]; exact h.2.1, by rw [y.cell hb]; exact h.2.2⟩

set_option maxHeartbeats 2000000 in
theorem walkWordTurns (i : Int) (m : Bool) (c : Int) (a : Option Addr) (len cap : Nat) (z : List Int) (w : World) (hi : -9223372036854775808 ≤ i ∧ i ≤ 9223372036854775807) (hc : -9223372036854775808 ≤ c ∧ c ≤ 9223372036854775807)
    (hz : IsRow .i64 w a len cap z) :
    Calls Try.prog 6 #[.agg #[.int .i64 i, .bool m, .int .i64 c], .slice a len cap] w fun e w' => e = .returned (.bool true) ∧ Below w.heap.size w w' := by
  obtain ⟨_, hrow⟩ := hz.opened
  have HR := Lib.hid hrow
  clear hrow hz
  by_cases hlen : len ≤ 200
  · go_enter Try.func6, Try.ntmps6
    go_wp2_with fail
    refine (awake_any _).mono ?_
    rintro e w1 ⟨rfl, hb1⟩
    have hsz : w.heap.size < w1.heap.size := by have := hb1.size; simp [go_sem] at this; omega
    have k0 : w1.cell? ⟨w.heap.size, 0, none⟩ = some (.int .i64 i) := by rw [hb1.cell (p := ⟨w.heap.size, 0, none⟩) (by simp [go_sem])]; simp [go_sem]
    have k1 : w1.cell? ⟨w.heap.size, 1, none⟩ = some (.bool m) := by rw [hb1.cell (p := ⟨w.heap.size, 1, none⟩) (by simp [go_sem])]; simp [go_sem]
    have k2 : w1.cell? ⟨w.heap.size, 2, none⟩ = some (.int .i64 c) := by rw [hb1.cell (p := ⟨w.heap.size, 2, none⟩) (by simp [go_sem])]; simp [go_sem]
    go_wp2_with fail
    refine (pack_norm _ _ _ _ hi hc).mono ?_
    rintro e w2 ⟨rfl, hb2⟩
    go_wp2_with fail
    refine (of_small _ _ _ _ (by omega) (by omega)).mono ?_
    rintro e w3 ⟨rfl, hb3⟩
    obtain ⟨fi, hfi⟩ : ∃ x, i % 65536 = x := ⟨_, rfl⟩
    obtain ⟨fc, hfc⟩ : ∃ x, c % 268435456 = x := ⟨_, rfl⟩
    have hfi2 : 0 ≤ fi ∧ fi ≤ 65535 := by omega
    have hfc2 : 0 ≤ fc ∧ fc ≤ 268435455 := by omega
    rw [hfi, hfc]
    clear hfi hfc k0 k1 k2
    have hw3 : Below w.heap.size w w3 := ((Below.refl _ _).alloc (Nat.le_refl _) _).trans ((below_trans hb1 (below_trans hb2 hb3)).mono (by simp [go_sem]))
    clear hb1 hb2 hb3 hsz
    go_wp2_with fail
    go_loopw [8] (fun n wr => ∃ (k : Nat) (ai ac : Int) (am : Bool), k ≤ len ∧ n = .int .i64 k ∧ Below w.heap.size w wr ∧ RefAt wr w3.heap.size fi m fc ∧ RefAt wr (w3.heap.size + 1) ai am ac ∧ 0 ≤ ai ∧ ai ≤ 65535 ∧ ac = (fc + k) % 268435456 ∧ w3.heap.size + 1 < wr.heap.size ∧ (∀ o, wr.frozen? ⟨w3.heap.size + 1, o, none⟩ = false))
      (fun n _ => len - (intOf n).toNat)
    case atStart =>
      refine ⟨0, fi, fc, m, Nat.zero_le _, rfl, ?_, ⟨by simp [go_sem], by simp [go_sem], by simp [go_sem]⟩, ⟨by simp [go_sem], by simp [go_sem], by simp [go_sem]⟩, hfi2.1, hfi2.2, by omega, by simp [go_sem], fun o => by simp [go_sem]⟩
      exact (hw3.alloc hw3.size _).alloc (by have := hw3.size; simp [go_sem]; omega) _
    case round =>
      obtain ⟨k, ai, ac, am, hk, rfl, hbel, hf, ha, hai1, hai2, hac, hsz, hfr⟩ := hrel
      have hac2 : 0 ≤ ac ∧ ac ≤ 268435455 := by omega
      by_cases hlt : k < len
      · rcases HR.out with h0 | ⟨b, off, ha0, hr⟩
        · omega
        subst ha0
        have hcell : wr.cell? ⟨b, off + k, none⟩ = some (.int .i64 (z.getD k 0)) := ((hr.later hbel).2 k hlt).1
        have hbb := (hr.later hbel).1
        have hwf : (Lit.int .i64 (z.getD k 0)).wf = true := ((hr.later hbel).2 k hlt).2
        have hbd := i64_bd hwf
        generalize z.getD k 0 = x at hcell hbd
        have HAC := Lib.hid hac
        clear hr hwf hac
        go_wp2_with fail
        have a0 : ∀ y : After wr, y.w.cell? ⟨w3.heap.size + 1, 0, none⟩ = some (.int .i64 ai) := fun y => (ha.after hsz y).1
        have a1 : ∀ y : After wr, y.w.cell? ⟨w3.heap.size + 1, 1, none⟩ = some (.bool am) := fun y => (ha.after hsz y).2.1
        have a2 : ∀ y : After wr, y.w.cell? ⟨w3.heap.size + 1, 2, none⟩ = some (.int .i64 ac) := fun y => (ha.after hsz y).2.2
        have c0 : ∀ y : After wr, y.w.cell? ⟨b, off + k, none⟩ = some (.int .i64 x) := fun y => by rw [y.cell hbb]; exact hcell
        refine wp_region_after_tail 6 (by kernel_rfl) (by kernel_rfl) ?_
        simp only [List.take_succ_cons, List.take_zero, List.drop_succ_cons, List.drop_zero]
        repeat (go_big_quiet_step (first
          | (go_at_call 14; exact calls_after (turn_any _ _ _ _ _ (by omega) hbd))))
        refine wpQuiet_nil ?_
        rintro _ ⟨y, rfl⟩
        have d0 := a0 y
        have d1 := a1 y
        have d2 := a2 y
        have e0 : y.w.frozen? ⟨w3.heap.size + 1, 0, none⟩ = false := by rw [y.frozen hsz]; exact hfr 0
        have e1 : y.w.frozen? ⟨w3.heap.size + 1, 1, none⟩ = false := by rw [y.frozen hsz]; exact hfr 1
        have e2 : y.w.frozen? ⟨w3.heap.size + 1, 2, none⟩ = false := by rw [y.frozen hsz]; exact hfr 2
        clear a0 a1 a2 c0
        go_wp2_with fail
        obtain ⟨W, hW⟩ : ∃ W, W = ((y.w.setCell ⟨w3.heap.size + 1, 0, none⟩ (Value.int IntKind.i64 (x % 65536))).setCell ⟨w3.heap.size + 1, 1, none⟩ (Value.bool false)).setCell ⟨w3.heap.size + 1, 2, none⟩ (Value.int IntKind.i64 ((ac + 1) % 268435456)) := ⟨_, rfl⟩
        have hin : w.heap.size ≤ w3.heap.size + 1 := by have := hw3.size; omega
        have hyb := y.bel
        have gbel : Below w.heap.size w W := by
          rw [hW]
          exact (((hbel.trans (hyb.mono hbel.size)).setCell hin _).setCell hin _).setCell hin _
        have gsz : w3.heap.size + 1 < W.heap.size := by rw [hW]; simp [go_sem]; have := hyb.size; omega
        have gf : RefAt W w3.heap.size fi m fc := by
          have q := hf.after (by omega) y
          rw [hW]
          exact ⟨by simp [go_sem, q.1], by simp [go_sem, q.2.1], by simp [go_sem, q.2.2]⟩
        have ga : RefAt W (w3.heap.size + 1) (x % 65536) false ((ac + 1) % 268435456) := by
          rw [hW]
          exact ⟨by simp [go_sem, d0, d1, d2], by simp [go_sem, d0, d1, d2], by simp [go_sem, d0, d1, d2]⟩
        have gfr : ∀ o, W.frozen? ⟨w3.heap.size + 1, o, none⟩ = false := by
          intro o; rw [hW]; simp [go_sem]; rw [y.frozen hsz]; exact hfr o
        rw [← hW]
        clear hW d0 d1 d2 e0 e1 e2 hyb hfr ha hf hcell hbb hsz hbel hac2
        have hq : (ac + 1) % 268435456 = (fc + k + 1) % 268435456 := by have := HAC.out; omega
        rw [hq] at ga ⊢
        clear HAC hq
        obtain ⟨bc, hbc⟩ : ∃ v, (fc + (k : Int) + 1) % 268435456 = v := ⟨_, rfl⟩
        have hbc2 : 0 ≤ bc ∧ bc ≤ 268435455 := by omega
        have hne : (packed (x % 65536) false bc == packed fi m fc) = false := by
          rw [beq_eq_false_iff_ne]; intro e
          have := packed_inj _ _ _ _ _ _ (by omega) hbc2 hfi2 hfc2 e
          omega
        rw [hbc] at ga ⊢
        have a0 : ∀ y : After W, y.w.cell? ⟨w3.heap.size + 1, 0, none⟩ = some (.int .i64 (x % 65536)) := fun y => (ga.after gsz y).1
        have a1 : ∀ y : After W, y.w.cell? ⟨w3.heap.size + 1, 1, none⟩ = some (.bool false) := fun y => (ga.after gsz y).2.1
        have a2 : ∀ y : After W, y.w.cell? ⟨w3.heap.size + 1, 2, none⟩ = some (.int .i64 bc) := fun y => (ga.after gsz y).2.2
        have b0 : ∀ y : After W, y.w.cell? ⟨w3.heap.size, 0, none⟩ = some (.int .i64 fi) := fun y => (gf.after (by omega) y).1
        have b1 : ∀ y : After W, y.w.cell? ⟨w3.heap.size, 1, none⟩ = some (.bool m) := fun y => (gf.after (by omega) y).2.1
        have b2 : ∀ y : After W, y.w.cell? ⟨w3.heap.size, 2, none⟩ = some (.int .i64 fc) := fun y => (gf.after (by omega) y).2.2
        have u1 : IntKind.i64.wrap (fc + (k : Int)) = fc + k := by rw [IntKind.wrap_i64]; omega
        have u2 : IntKind.i64.wrap (fc + (k : Int) + 1) = fc + k + 1 := by rw [IntKind.wrap_i64]; omega
        refine wp_region_after (by kernel_rfl) (by kernel_rfl) ?_
        repeat (go_big_quiet_step (first
          | (go_at_call_of 10 bc; exact calls_after (pack_small _ _ _ _ (by omega) hbc2))
          | (go_at_call 10; exact calls_after (pack_small _ _ _ _ hfi2 hfc2))))
        refine wpQuiet_nil ?_
        rintro _ ⟨y2, rfl⟩
        clear a0 a1 a2 b0 b1 b2 u1 u2 hne
        go_wp2_with fail
        go_roundw
        case rel =>
          refine ⟨k + 1, x % 65536, bc, false, by omega, by go_num, gbel.trans (y2.bel.mono gbel.size), gf.after (by omega) y2, ga.after gsz y2, by omega, by omega, by omega, Nat.lt_of_lt_of_le gsz y2.bel.size, fun o => by rw [y2.frozen gsz]; exact gfr o⟩
        case measure => simp [intOf]; omega
      · obtain rfl : k = len := by omega
        go_wp2_with fail
        go_ret
        exact ⟨rfl, hbel⟩
  · have hlen2 : ¬ ((len : Int) ≤ 200) := by omega
    go_enter Try.func6, Try.ntmps6
    go_wp2_with fail
    refine (awake_any _).mono ?_
    rintro e w1 ⟨rfl, hb1⟩
    go_wp2_with fail
    go_ret
    exact ⟨rfl, ((Below.refl _ _).alloc (Nat.le_refl _) _).trans (hb1.mono (by simp [go_sem]))⟩

end Go.Proofs.Ytkdcmppkfgdjmaa
