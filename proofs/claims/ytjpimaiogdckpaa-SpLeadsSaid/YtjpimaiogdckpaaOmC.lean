/-
  OM: slices.Collect, slices.Sorted; om.Right.
-/
import Derived.Test.YtjpimaiogdckpaaOmB
import Derived.Test.YtjpimaiogdckpaaOmP
import Derived.Test.YtjpimaiogdckpaaShelf
import Derived.Test.YtjpimaiogdckpaaGet
import Derived.Sort.OwnSortedInts
import Derived.Lib.OwnBridge
import Derived.Deep.RegionHeld3
import Derived.Deep.QuietTactic
import Derived.BigQuiet
namespace Go.Proofs.Ytjpimaiogdckpaa
open Go.ChangeShapes Go.WideShapes Go.ChangeAt Go.RowKit Go.Sort

theorem firsts_getD (l : List Int) : firsts (fun j => l.getD j 0) l.length = l := range_getD l
theorem Nums.low {w : World} {p : Option Addr} {c : Nat} {l : List Int} (h : Nums w p c l) : AtLow w.heap.size w p l.length (fun j => l.getD j 0) := fun j hj => by
  obtain ⟨b, off, h1, h2, h3⟩ := h.at_ j hj
  exact ⟨b, off, h1, h2, by rw [h3]; show _ = some (Value.int .i64 (l.getD j 0)); rw [List.getD_eq_getElem?_getD, List.getElem?_eq_getElem hj]; rfl⟩

theorem values_any (p : Option Addr) (n c : Nat) (w : World) : Calls Try.prog 34 #[.slice p n c] w fun e w' => e = .returned (.func (.func 41) #[] #[.pointer (some ⟨w.heap.size, 0, none⟩)]) ∧ w' = w.alloc (.cells #[.slice p n c] 45) := by
  go_enter Try.func34, Try.ntmps34
  go_wp2_with fail
  go_ret
  exact ⟨rfl, rfl⟩

set_option maxHeartbeats 1000000 in
theorem collect_any (Bs n c : Nat) (p : Option Addr) (l : List Int) (hl : l.length = n) (hn : n ≤ 1000000) (w : World) (hB : Bs < w.heap.size) (hc : w.cell? ⟨Bs, 0, none⟩ = some (.slice p n c)) (h : Nums w p c l) :
    Calls Try.prog 39 #[.func (.func 41) #[] #[.pointer (some ⟨Bs, 0, none⟩)]] w fun e w' => ∃ v, e = .returned v ∧ w'.ownsRow w.heap.size 3 1 v n (l.map (Value.int .i64)) ∧ Below w.heap.size w w' := by
  subst hl
  have hA := callsIn_wide.1 (appendSeq_in Fence.wide 3 trivial trivial rfl (Nat.le_refl _) Bs l.length c p _ hn w hB hc h.low)
  rw [firsts_getD] at hA
  clear h hc
  generalize l.length = n at hA ⊢
  generalize l.map (Value.int .i64) = L at hA ⊢
  go_enter Try.func39, Try.ntmps39
  go_wp2_with fail
  refine hA.mono ?_
  rintro e w1 ⟨v, rfl, ho, hb⟩
  have HO := Lib.hid ho
  have HB := Lib.hid hb
  clear ho hb
  go_wp2_with fail
  go_ret
  exact ⟨v, rfl, HO.out, HB.out⟩

/-- a row of the call's own, as the sort wants it -/
theorem own_holds {w : World} {base : Nat} {v : Value} {n : Nat} {l : List Int} (h : w.ownsRow base 3 1 v n (l.map (Value.int .i64))) (h0 : 0 < n) :
    ∃ g cap, v = .slice (some ⟨g, 0, none⟩) n cap ∧ base ≤ g ∧ g < w.heap.size ∧ n ≤ cap ∧ cap ≤ maxLen ∧ l.length = n ∧ Holds (Value.int .i64) w g 0 l.toArray ∧ ∃ cur, w.heap[g]? = some (.cells cur 3 (0, 0)) ∧ cur.size = cap * 1 := by
  have hv : v ≠ .slice none 0 0 := fun e => by
    rcases h.2 with ⟨_, h1⟩ | ⟨g, cap, cur, h1, _⟩
    · omega
    · rw [h1] at e; cases e
  obtain ⟨g, cap, rfl, h1, h2, h3, h4, h5, h6⟩ := Lib.holds_of_ownsRow h hv
  rcases h.2 with ⟨h7, _⟩ | ⟨g', cap', cur, h7, h8, h9, h10, h11, h12, _⟩
  · cases h7
  · cases h7
    exact ⟨g, cap, rfl, h1, h2, h3, h4, h5, h6, cur, h9, h12⟩

set_option maxHeartbeats 1000000 in
theorem sorted_any (Bs n c : Nat) (p : Option Addr) (l : List Int) (hl : l.length = n) (h0 : 0 < n) (hn : n ≤ 1000000) (w : World) (hB : Bs < w.heap.size) (hc : w.cell? ⟨Bs, 0, none⟩ = some (.slice p n c)) (h : Nums w p c l) :
    Calls Try.prog 33 #[.func (.func 41) #[] #[.pointer (some ⟨Bs, 0, none⟩)]] w fun e w' => ∃ g cap, e = .returned (.slice (some ⟨g, 0, none⟩) n cap) ∧ w'.ownsRow w.heap.size 3 1 (.slice (some ⟨g, 0, none⟩) n cap) n ((srt l).map (Value.int .i64)) ∧ Below w.heap.size w w' := by
  have hA := collect_any Bs n c p l hl hn w hB hc h
  have HL := Lib.hid hl
  clear h hc hl
  go_enter Try.func33, Try.ntmps33
  go_wp2_with fail
  refine hA.mono ?_
  rintro e w1 ⟨v, rfl, ho, hb⟩
  obtain ⟨g, cap, rfl, k1, k2, k3, k4, k5, k6, cur, k7, k8⟩ := own_holds ho h0
  have hS := Try.slices_Sort_int g 0 cap l w1 k6 k2 (by omega)
  rw [HL.out] at hS
  have HF : Hid (∀ nn os, (grow (putRow (Value.int .i64) (Sort.ahead w1 nn) g 0 (l.mergeSort fun x y => decide (x ≤ y)).toArray) os).ownsRow w.heap.size 3 1 (.slice (some ⟨g, 0, none⟩) n cap) n ((srt l).map (Value.int .i64)) ∧ Below w.heap.size w (grow (putRow (Value.int .i64) (Sort.ahead w1 nn) g 0 (l.mergeSort fun x y => decide (x ≤ y)).toArray) os)) := Lib.hid fun nn os => by
    have h1 := ownsRow_sortedI (n := nn) (os := os) (ts := srt l) (ss := l) (srt_len l) k1 k7 (by omega) k4 k8
    rw [HL.out] at h1
    exact ⟨h1, hb.grown (grownBy_sortedI _) hb.size (fun j hj => by cases hj; exact k1)⟩
  clear ho hb k6 k7
  go_wp2_with fail
  refine hS.mono ?_
  rintro e w2 ⟨rfl, nn, os, rfl⟩
  have HF2 := Lib.hid (HF.out nn os)
  generalize grow (putRow (Value.int .i64) (Sort.ahead w1 nn) g 0 (l.mergeSort fun x y => decide (x ≤ y)).toArray) os = w3 at HF2 ⊢
  clear HF hS hA
  go_wp2_with fail
  go_ret
  exact ⟨g, cap, rfl, HF2.out.1, HF2.out.2⟩
end Go.Proofs.Ytjpimaiogdckpaa
