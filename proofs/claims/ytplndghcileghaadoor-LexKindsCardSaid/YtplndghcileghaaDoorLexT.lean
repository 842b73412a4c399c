/-
  LEX: rows of words in memory; Same, Alike.
-/
import Derived.Test.YtplndghcileghaaDoorRows
import Derived.ProofKit
import Derived.Test.YtplndghcileghaaDoorLexK
import Derived.Test.YtplndghcileghaaDoorBlk
import Derived.Deep.QuietTactic
import Derived.BigQuiet
import Derived.LoopTactic
import Derived.Laws.StructEq
namespace Go.Proofs.YtplndghcileghaaDoor
open Go.ChangeShapes Go.WideShapes Go.ChangeAt Go.RowKit

/-- a word as it lies in memory -/
structure TokV where
  k : Int
  t : ByteArray
  n : Int
  p : Int
deriving DecidableEq
def TokV.cells (t : TokV) : List Value := [.int .i64 t.k, .string t.t, .int .i64 t.n, .int .i64 t.p]
def toksV (ts : List TokV) : List Value := ts.flatMap TokV.cells
theorem toksV_length : ∀ ts : List TokV, (toksV ts).length = ts.length * 4
  | [] => rfl
  | t :: ts => by
    have := toksV_length ts
    unfold toksV at this ⊢
    simp only [List.flatMap_cons, List.length_append, List.length_cons, this]
    show 4 + _ = _
    omega
theorem toksV_snoc (ts : List TokV) (t : TokV) : toksV (ts ++ [t]) = toksV ts ++ t.cells := by
  unfold toksV; simp
theorem toksV_at : ∀ (ts : List TokV) (i j : Nat) (h : i < ts.length), j < 4 → (toksV ts)[i * 4 + j]? = (ts[i].cells)[j]?
  | t :: ts, 0, j, _, hj => by
    show (t.cells ++ toksV ts)[0 * 4 + j]? = _
    rw [Nat.zero_mul, Nat.zero_add, List.getElem?_append_left (by show j < 4; exact hj)]
    rfl
  | t :: ts, i + 1, j, h, hj => by
    show (t.cells ++ toksV ts)[(i + 1) * 4 + j]? = _
    rw [List.getElem?_append_right (by show 4 ≤ _; omega)]
    have e : (i + 1) * 4 + j - t.cells.length = i * 4 + j := by show _ - 4 = _; omega
    rw [e, toksV_at ts i j (by simpa using h) hj]
    rfl

/-- these words lie behind p -/
structure Toks (w : World) (p : Option Addr) (ts : List TokV) : Prop where
  at_ : ∀ i, (h : i < ts.length) → ∃ b off, p = some ⟨b, off, none⟩ ∧ b < w.heap.size ∧
    w.cell? ⟨b, off + i * 4, none⟩ = some (.int .i64 ts[i].k) ∧ w.cell? ⟨b, off + i * 4 + 1, none⟩ = some (.string ts[i].t) ∧
    w.cell? ⟨b, off + i * 4 + 2, none⟩ = some (.int .i64 ts[i].n) ∧ w.cell? ⟨b, off + i * 4 + 3, none⟩ = some (.int .i64 ts[i].p)

theorem Toks.later {w w1 : World} {p : Option Addr} {ts : List TokV} (h : Toks w p ts) (hb : Below w.heap.size w w1) : Toks w1 p ts :=
  ⟨fun i hi => by
    obtain ⟨b, off, h1, h2, g0, g1, g2, g3⟩ := h.at_ i hi
    refine ⟨b, off, h1, Nat.lt_of_lt_of_le h2 hb.size, ?_, ?_, ?_, ?_⟩
    · rw [hb.cell (p := ⟨b, _, none⟩) h2]; exact g0
    · rw [hb.cell (p := ⟨b, _, none⟩) h2]; exact g1
    · rw [hb.cell (p := ⟨b, _, none⟩) h2]; exact g2
    · rw [hb.cell (p := ⟨b, _, none⟩) h2]; exact g3⟩

theorem Toks.of_cells {w : World} {p : Option Addr} {ts : List TokV} (h : Cells w p (toksV ts)) : Toks w p ts := by
  refine ⟨fun i hi => ?_⟩
  have hl := toksV_length ts
  obtain ⟨b, off, h1, h2, h3⟩ := h.opened (by rw [hl]; omega)
  refine ⟨b, off, h1, h2, ?_, ?_, ?_, ?_⟩
  · exact h3 (i * 4) _ (by have := toksV_at ts i 0 hi (by omega); simpa [TokV.cells] using this)
  · exact h3 (i * 4 + 1) _ (by have := toksV_at ts i 1 hi (by omega); simpa [TokV.cells] using this)
  · exact h3 (i * 4 + 2) _ (by have := toksV_at ts i 2 hi (by omega); simpa [TokV.cells] using this)
  · exact h3 (i * 4 + 3) _ (by have := toksV_at ts i 3 hi (by omega); simpa [TokV.cells] using this)
theorem Toks.of_own {w : World} {base : Nat} {p : Option Addr} {n cap : Nat} {ts : List TokV} (h : w.ownsRow base 30 4 (.slice p n cap) n (toksV ts)) : Toks w p ts :=
  .of_cells (Cells.of_own h)
theorem Toks.nil (w : World) (p : Option Addr) : Toks w p [] := ⟨fun i h => absurd h (by simp)⟩
theorem Toks.drawn {w : World} {p : Option Addr} {ts : List TokV} (h : Toks w p ts) (n : Nat) : Toks (w.drewN n) p ts := ⟨h.at_⟩

theorem tokGuard : Tryd.prog.eqGuardType Tryd.prog.depth 30 = false := by kernel_rfl
theorem tokHeld : Tryd.prog.stoodInHeld 30 = false := by kernel_rfl
theorem tokFields : Tryd.prog.underlying 30 = some (.struct (Tryd.prog.fieldsOf 30)) := by kernel_rfl

theorem tokEq (a b : TokV) (w : World) : (Op.equalIn 10000 30 (.agg #[.int .i64 a.k, .string a.t, .int .i64 a.n, .int .i64 a.p]) (.agg #[.int .i64 b.k, .string b.t, .int .i64 b.n, .int .i64 b.p])).run Tryd.prog w = .ok (decide (a = b)) w := by
  rw [run_equalIn_struct w 9999 _ _ _ tokFields tokHeld]
  obtain ⟨ak, at', an, ap⟩ := a
  obtain ⟨bk, bt, bn, bp⟩ := b
  have ht : (at'.toList = bt.toList) = (at' = bt) := by
    rw [ByteArray.toList_eq, ByteArray.toList_eq]
    exact propext ⟨fun h => ByteArray.ext (Array.toList_inj.1 h), fun h => by rw [h]⟩
  simp [go_sem, Program.fieldsOf, Tryd.underlying30]
  simp only [ht]
  by_cases h1 : ak = bk
  · by_cases h2 : at' = bt
    · by_cases h3 : an = bn
      · by_cases h4 : ap = bp <;> simp [h1, h2, h3, h4]
      · simp [h1, h2, h3]
    · simp [h1, h2]
  · simp [h1]

theorem list_ext_of {α : Type} {a b : List α} (hl : a.length = b.length) (h : ∀ i, (h1 : i < a.length) → (h2 : i < b.length) → a[i] = b[i]) : a = b := List.ext_getElem hl h


def eqV (a b : TokV) : Bool := decide (a = b)

set_option maxRecDepth 100000 in
set_option maxHeartbeats 1000000 in
theorem same_any (p q : Option Addr) (a b : List TokV) (c d : Nat) (w : World) (ha : Toks w p a) (hb : Toks w q b) (hl : a.length ≤ 1000000) (hl2 : b.length ≤ 1000000) :
    Calls Tryd.prog 12 #[.slice p a.length c, .slice q b.length d] w fun e w' => e = .returned (.bool (decide (a = b))) ∧ ∃ n, w' = w.drewN n := by
  obtain ⟨n, hn⟩ : ∃ n, a.length = n := ⟨_, rfl⟩
  obtain ⟨m, hm⟩ : ∃ m, b.length = m := ⟨_, rfl⟩
  have HN := Lib.hid hn
  have HM := Lib.hid hm
  rw [hn] at hl ⊢
  rw [hm] at hl2 ⊢
  clear hn hm
  have hgd := tokGuard
  by_cases hnm : n = m
  · subst hnm
    go_enter Tryd.func12, Tryd.ntmps12
    go_wp2_with fail
    go_loopw [5] (fun i wr => ∃ k x : Nat, k ≤ n ∧ i = .int .i64 k ∧ wr = w.drewN x ∧ Hid (∀ j (h1 : j < a.length) (h2 : j < b.length), j < k → a[j] = b[j])) (fun i _ => n - (intOf i).toNat)
    case atStart => exact ⟨0, 0, Nat.zero_le _, rfl, rfl, Lib.hid (fun j _ _ hj => by omega)⟩
    case round =>
      obtain ⟨k, x, hk, rfl, rfl, HE⟩ := hrel
      by_cases hlt : k < n
      · have hk1 : k < a.length := by rw [HN.out]; exact hlt
        have hk2 : k < b.length := by rw [HM.out]; exact hlt
        obtain ⟨b1, o1, rfl, _, g0, g1, g2, g3⟩ := ha.at_ k hk1
        obtain ⟨b2, o2, rfl, _, f0, f1, f2, f3⟩ := hb.at_ k hk2
        obtain ⟨x0, e0⟩ : ∃ v, a[k] = v := ⟨_, rfl⟩
        obtain ⟨y0, e1⟩ : ∃ v, b[k] = v := ⟨_, rfl⟩
        rw [e0] at g0 g1 g2 g3
        rw [e1] at f0 f1 f2 f3
        have E0 := Lib.hid e0
        have E1 := Lib.hid e1
        clear e0 e1
        by_cases hxy : x0 = y0
        · have heq : ∀ wx, (Op.equalIn 10000 30 (.agg #[.int .i64 x0.k, .string x0.t, .int .i64 x0.n, .int .i64 x0.p]) (.agg #[.int .i64 y0.k, .string y0.t, .int .i64 y0.n, .int .i64 y0.p])).run Tryd.prog wx = .ok true wx := fun wx => by rw [tokEq, decide_eq_true hxy]
          have HXY := Lib.hid hxy
          clear hxy
          go_wp2_with fail
          go_quiet (fail)
          go_wp2_with fail
          go_roundw
          case rel =>
            refine ⟨k + 1, x + nq, by omega, by go_num, ?_, Lib.hid (fun j h1 h2 hj => ?_)⟩
            · rfl
            · by_cases hjk : j = k
              · subst hjk; exact (E0.out.trans HXY.out).trans E1.out.symm
              · exact HE.out j h1 h2 (by omega)
          case measure => simp [intOf]; omega
        · have heq : ∀ wx, (Op.equalIn 10000 30 (.agg #[.int .i64 x0.k, .string x0.t, .int .i64 x0.n, .int .i64 x0.p]) (.agg #[.int .i64 y0.k, .string y0.t, .int .i64 y0.n, .int .i64 y0.p])).run Tryd.prog wx = .ok false wx := fun wx => by rw [tokEq, decide_eq_false hxy]
          have hd : decide (a = b) = false := by
            rw [decide_eq_false_iff_not]; intro e
            subst e
            exact hxy (E0.out.symm.trans E1.out)
          have HD := Lib.hid hd
          clear hxy hd
          go_wp2_with fail
          go_quiet (fail)
          go_wp2_with fail
          go_ret
          exact ⟨by rw [HD.out]; rfl, x + nq, by first | rfl | rw [World.drewN_drewN]⟩
      · obtain rfl : k = n := by omega
        have hd : decide (a = b) = true := by
          rw [decide_eq_true_eq]
          exact List.ext_getElem (by rw [HN.out, HM.out]) (fun j h1 h2 => HE.out j h1 h2 (by rw [HN.out] at h1; omega))
        have HD := Lib.hid hd
        clear hd
        go_wp2_with fail
        go_ret
        exact ⟨by rw [HD.out]; rfl, x, rfl⟩
  · have hne : ((n : Int) == (m : Int)) = false := by simp; omega
    have hne2 : ((n : Int) != (m : Int)) = true := by simp; omega
    have hd : decide (a = b) = false := by
      rw [decide_eq_false_iff_not]; intro e; apply hnm; rw [← HN.out, ← HM.out, e]
    have HD := Lib.hid hd
    clear hd hnm
    go_enter Tryd.func12, Tryd.ntmps12
    go_wp2_with fail
    go_ret
    exact ⟨by rw [HD.out]; rfl, 0, rfl⟩
end Go.Proofs.YtplndghcileghaaDoor
