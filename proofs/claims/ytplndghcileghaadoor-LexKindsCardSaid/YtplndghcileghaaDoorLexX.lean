/-
  LEX: the statements' head.
-/
import Derived.Test.YtplndghcileghaaDoorRows
import Derived.ProofKit
import Derived.Test.YtplndghcileghaaDoorLexV
import Derived.Test.YtplndghcileghaaDoorLexS
namespace Go.Proofs.YtplndghcileghaaDoor
open Go.ChangeShapes Go.WideShapes Go.ChangeAt Go.RowKit

theorem Toks.of_blk {w : World} {b : Nat} {cs : Array Value} {ts : List TokV} (h : Blk w b 30 cs) (he : cs.toList = toksV ts) : Toks w (some ⟨b, 0, none⟩) ts := by
  refine Toks.of_cells ⟨fun i hi => ⟨b, 0, rfl, h.lt, ?_⟩⟩
  rw [Nat.zero_add, h.cell, ← Array.getElem?_toList, he]
  exact List.getElem?_eq_getElem hi

def exYes : List Tok := [⟨1, [120, 49], 0, 0⟩, ⟨3, [61], 0, 2⟩, ⟨1, [120], 0, 3⟩, ⟨3, [61, 61], 0, 4⟩, ⟨2, [55], 7, 6⟩]
def exCells : Array Value := #[.int .i64 1, .string ⟨#[120, 49]⟩, .int .i64 0, .int .i64 0, .int .i64 3, .string ⟨#[61]⟩, .int .i64 0, .int .i64 2, .int .i64 1, .string ⟨#[120]⟩, .int .i64 0, .int .i64 3, .int .i64 3, .string ⟨#[61, 61]⟩, .int .i64 0, .int .i64 4, .int .i64 2, .string ⟨#[55]⟩, .int .i64 7, .int .i64 6]

theorem words_yes (w : World) : Calls Tryd.prog 10 #[.string ⟨#[120, 49, 61, 120, 61, 61, 55]⟩] w fun e w' => ∃ p cap, e = .returned (.tuple #[.slice p 5 cap, .int .i64 0]) ∧ Toks w' p (tsV exYes) ∧ Below w.heap.size w w' := by
  have h := words_any ⟨#[120, 49, 61, 120, 61, 61, 55]⟩ (by decide) w
  rw [show wordsP 0 (⟨#[120, 49, 61, 120, 61, 61, 55]⟩ : ByteArray).data.toList = some exYes from example_yes] at h
  refine h.mono ?_
  rintro e w' ⟨p, cap, he, ho, hb, _⟩
  exact ⟨p, cap, he, Toks.of_own ho, hb⟩
theorem words_no (w : World) : Calls Tryd.prog 10 #[.string ⟨#[120, 49, 61, 120, 61, 61, 48, 55]⟩] w fun e w' => e = .returned (.tuple #[.slice none 0 0, .int .i64 3]) ∧ Below w.heap.size w w' := by
  have h := words_any ⟨#[120, 49, 61, 120, 61, 61, 48, 55]⟩ (by decide) w
  rw [show wordsP 0 (⟨#[120, 49, 61, 120, 61, 61, 48, 55]⟩ : ByteArray).data.toList = none from example_no] at h
  exact h

set_option maxRecDepth 100000 in
theorem awake_any (w : World) : Calls Tryd.prog 9 #[] w fun e w' => e = .returned (.bool true) ∧ Below w.heap.size w w' := by
  go_enter Tryd.func9, Tryd.ntmps9
  go_wp2_with fail
  refine (words_yes w).mono ?_
  rintro e w1 ⟨p, cap, rfl, ht1, hb1⟩
  go_wp2_with fail
  refine (words_no w1).mono ?_
  rintro e w2 ⟨rfl, hb2⟩
  have ht2 := ht1.later hb2
  have hB2 : Below w.heap.size w w2 := hb1.trans (hb2.mono hb1.size)
  obtain ⟨W3, hW3⟩ : ∃ W3, W3 = w2.alloc (Obj.cells exCells 30) := ⟨_, rfl⟩
  have hB3 : Below w2.heap.size w2 W3 := by rw [hW3]; exact (Below.refl _ _).alloc (Nat.le_refl _) _
  have ht3 := ht2.later hB3
  have hx3 : Toks W3 (some ⟨w2.heap.size, 0, none⟩) (tsV exYes) := by
    refine Toks.of_blk (cs := exCells) (by rw [hW3]; exact Blk.made w2 _ _) rfl
  have hBB : Below w.heap.size w W3 := hB2.trans (hB3.mono hB2.size)
  have hS : Calls Tryd.prog 12 #[.slice p 5 cap, .slice (some ⟨w2.heap.size, 0, none⟩) 5 5] W3 fun e w' => e = .returned (.bool true) ∧ ∃ n, w' = W3.drewN n := by
    have := same_any p (some ⟨w2.heap.size, 0, none⟩) (tsV exYes) (tsV exYes) cap 5 W3 ht3 hx3 (by decide) (by decide)
    rw [decide_eq_true (rfl : tsV exYes = tsV exYes)] at this
    exact this
  have hSh : ∀ n, Calls Tryd.prog 13 #[.slice p 5 cap] (W3.drewN n) fun e w' => e = .returned (.string ⟨#[120, 49, 32, 61, 32, 120, 32, 61, 61, 32, 55]⟩) ∧ Below (W3.drewN n).heap.size (W3.drewN n) w' := fun n =>
    show_any p (tsV exYes) cap (W3.drewN n) (ht3.drawn n) (by decide) (by decide)
  have HS := Lib.hid hS
  have HSh := Lib.hid hSh
  have HW3 := Lib.hid hW3
  clear hS hSh hW3
  go_wp2_with fail
  have hw := HW3.out
  unfold exCells at hw
  rw [← hw]
  clear hw
  refine HS.out.mono ?_
  rintro e w4 ⟨rfl, x, rfl⟩
  go_wp2_with fail
  refine (HSh.out x).mono ?_
  rintro e w5 ⟨rfl, hb5⟩
  go_wp2_with fail
  go_ret
  exact ⟨rfl, (below_drewN hBB x).trans (hb5.mono (show w.heap.size ≤ W3.heap.size from hBB.size))⟩

theorem alike_any (p q : Option Addr) (a b : List TokV) (c d : Nat) (w : World) (ha : Toks w p a) (hb : Toks w q b) (hl : a.length ≤ 1000000) (hkb : a.map (·.k) = b.map (·.k)) (htb : a.map (·.t) = b.map (·.t)) (hnb : a.map (·.n) = b.map (·.n)) :
    Calls Tryd.prog 16 #[.slice p a.length c, .slice q b.length d] w fun e w' => e = .returned (.bool true) ∧ ∃ n, w' = w.drewN n := by
  have hlen : b.length = a.length := by have := congrArg List.length hkb; simpa using this.symm
  rw [hlen]
  obtain ⟨n, hn⟩ : ∃ n, a.length = n := ⟨_, rfl⟩
  have HN := Lib.hid hn
  have HM := Lib.hid hlen
  rw [hn] at hl ⊢
  have hk : ∀ (i : Nat) (x y : TokV), a[i]? = some x → b[i]? = some y → x.k = y.k ∧ x.t = y.t ∧ x.n = y.n := by
    intro i x y hx hy
    have h1 := congrArg (fun l => l[i]?) hkb
    have h2 := congrArg (fun l => l[i]?) htb
    have h3 := congrArg (fun l => l[i]?) hnb
    simp only [List.getElem?_map, hx, hy, Option.map_some, Option.some.injEq] at h1 h2 h3
    exact ⟨h1, h2, h3⟩
  have HK := Lib.hid hk
  clear hn hlen hkb htb hnb hk
  go_enter Tryd.func16, Tryd.ntmps16
  go_wp2_with fail
  go_loopw [5] (fun i wr => ∃ k x : Nat, k ≤ n ∧ i = .int .i64 k ∧ wr = w.drewN x) (fun i _ => n - (intOf i).toNat)
  case atStart => exact ⟨0, 0, Nat.zero_le _, rfl, rfl⟩
  case round =>
    obtain ⟨k, x, hk, rfl, rfl⟩ := hrel
    by_cases hlt : k < n
    · have hk1 : k < a.length := by rw [HN.out]; exact hlt
      have hk2 : k < b.length := by rw [HM.out, HN.out]; exact hlt
      obtain ⟨b1, o1, rfl, _, g0, g1, g2, g3⟩ := ha.at_ k hk1
      obtain ⟨b2, o2, rfl, _, f0, f1, f2, f3⟩ := hb.at_ k hk2
      obtain ⟨e0, e1, e2⟩ := HK.out k _ _ (List.getElem?_eq_getElem hk1) (List.getElem?_eq_getElem hk2)
      rw [← e0] at f0
      rw [← e1] at f1
      rw [← e2] at f2
      obtain ⟨x0, hx0⟩ : ∃ v, a[k] = v := ⟨_, rfl⟩
      rw [hx0] at g0 g1 g2 g3 f0 f1 f2
      clear e0 e1 e2 hx0 f3 g3
      go_wp2_with fail
      go_quiet (fail)
      go_wp2_with fail
      go_roundw
      case rel => exact ⟨k + 1, x + nq, by omega, by go_num, rfl⟩
      case measure => simp [intOf]; omega
    · obtain rfl : k = n := by omega
      go_wp2_with fail
      go_ret
      exact ⟨rfl, x, rfl⟩
end Go.Proofs.YtplndghcileghaaDoor
