/-
  MEM: the document's with, Do, Same.
-/
import Derived.Test.YtnjpdgahjbijcaaMemC
import Derived.Test.YtnjpdgahjbijcaaMemD
import Derived.RangeFuncBox
namespace Go.Proofs.Ytnjpdgahjbijcaa
open Go.ChangeShapes Go.WideShapes Go.ChangeAt Go.RowKit

set_option maxHeartbeats 1000000 in
theorem rsame_any (p q : Option Addr) (xs ys : List Int) (c d : Nat) (w : World) (hx : Ints w p xs) (hy : Ints w q ys) (hl : xs.length ≤ 1000000) (hl2 : ys.length ≤ 1000000) :
    Calls Try.prog 16 #[.agg #[.slice p xs.length c], .agg #[.slice q ys.length d]] w fun e w' => e = .returned (.bool (decide (xs = ys))) ∧ Below w.heap.size w w' := by
  obtain ⟨W, hW⟩ : ∃ W, W = (w.alloc (Obj.cells #[Value.slice p xs.length c] 24)).alloc (Obj.cells #[Value.slice q ys.length d] 24) := ⟨_, rfl⟩
  have hbW : Below w.heap.size w W := by rw [hW]; exact ((Below.refl _ _).alloc (Nat.le_refl _) _).alloc (by simp [go_sem]) _
  have hWs : W.heap.size = w.heap.size + 2 := by rw [hW]; simp [go_sem]
  have k1 : W.cell? ⟨w.heap.size, 0, none⟩ = some (.slice p xs.length c) := by rw [hW]; simp [go_sem]
  have k2 : W.cell? ⟨w.heap.size + 1, 0, none⟩ = some (.slice q ys.length d) := by rw [hW]; simp [go_sem]
  have hxW := hx.later hbW
  have hyW := hy.later hbW
  have HW := Lib.hid hW
  have HWS := Lib.hid hWs
  clear hW hWs
  by_cases hlen : xs.length = ys.length
  · have HL := Lib.hid hlen
    obtain ⟨n, hn⟩ : ∃ n, xs.length = n := ⟨_, rfl⟩
    have hn2 : ys.length = n := by omega
    have HN := Lib.hid hn
    have HN2 := Lib.hid hn2
    rw [hn] at hl k1; rw [hn2] at k2; rw [hn, hn2]
    clear hlen hl2
    go_enter Try.func16, Try.ntmps16
    rw [hn, hn2] at HW
    clear hn hn2
    go_wp2_with fail
    rw [← HW.out]
    go_loopw [5] (fun i wr => ∃ k : Nat, k ≤ n ∧ i = .int .i64 k ∧ Below W.heap.size W wr ∧ ∀ j, j < k → xs[j]? = ys[j]?) (fun i _ => n - (intOf i).toNat)
    case atStart => exact ⟨0, Nat.zero_le _, rfl, Below.refl _ _, fun j hj => by omega⟩
    case round =>
      obtain ⟨k, hk, rfl, hb, he⟩ := hrel
      have d1 : wr.cell? ⟨w.heap.size, 0, none⟩ = some (.slice p n c) := by rw [hb.cell (p := ⟨w.heap.size, 0, none⟩) (by show w.heap.size < _; rw [HWS.out]; omega)]; exact k1
      have d2 : wr.cell? ⟨w.heap.size + 1, 0, none⟩ = some (.slice q n d) := by rw [hb.cell (p := ⟨w.heap.size + 1, 0, none⟩) (by show w.heap.size + 1 < _; rw [HWS.out]; omega)]; exact k2
      by_cases hlt : k < n
      · obtain ⟨b1, o1, x, h1, _, c1, ex, _⟩ := (hxW.later hb).at_ k (by rw [HN.out]; exact hlt)
        obtain ⟨b2, o2, y, h2, _, c2, ey, _⟩ := (hyW.later hb).at_ k (by rw [HN2.out]; exact hlt)
        subst h1 h2
        have HE := Lib.hid he
        have EX := Lib.hid ex
        have EY := Lib.hid ey
        clear he ex ey
        by_cases hxy : x = y
        · subst hxy
          go_wp2_with fail
          go_quiet (fail)
          go_wp2_with fail
          go_roundw
          case rel =>
            refine ⟨k + 1, by omega, by go_num, below_drewN hb _, fun j hj => ?_⟩
            by_cases hjk : j = k
            · subst hjk; rw [EX.out, EY.out]
            · exact HE.out j (by omega)
          case measure => simp [intOf]; omega
        · have hne : (x == y) = false := by simpa using hxy
          have hd : decide (xs = ys) = false := by
            rw [decide_eq_false_iff_not]; intro e
            have h1 := EX.out; rw [e, EY.out] at h1
            exact hxy (by injection h1 with h1; exact h1.symm)
          have HD := Lib.hid hd
          clear hd hxy
          go_wp2_with fail
          go_quiet (fail)
          go_wp2_with fail
          go_ret
          exact ⟨by rw [HD.out]; rfl, below_trans hbW (below_drewN hb _)⟩
      · obtain rfl : k = n := by omega
        have hd : decide (xs = ys) = true := by
          rw [decide_eq_true_eq]; exact same_of HL.out k (by rw [HN.out]; omega) he
        have HD := Lib.hid hd
        clear hd he
        go_wp2_with fail
        go_ret
        exact ⟨by rw [HD.out]; rfl, below_trans hbW hb⟩
  · have hne : ((xs.length : Int) == (ys.length : Int)) = false := by simp; omega
    have hd : decide (xs = ys) = false := by rw [decide_eq_false_iff_not]; intro e; exact hlen (by rw [e])
    have HD := Lib.hid hd
    clear hd hlen
    go_enter Try.func16, Try.ntmps16
    go_wp2_with fail
    go_ret
    exact ⟨by rw [HD.out]; rfl, by rw [← HW.out]; exact hbW⟩

/-- a row of the call's own, of whole numbers -/
def FreshAt (n : Nat) (w' : World) (p : Option Addr) : Prop := ∃ g cur, p = some ⟨g, 0, none⟩ ∧ n ≤ g ∧ w'.heap[g]? = some (.cells cur 3 (0, 0))

def WithPost (w : World) (xs : List Int) (e : Ending) (w' : World) : Prop :=
  ∃ p cap, e = .returned (.agg #[.slice p xs.length cap]) ∧ Ints w' p xs ∧ Below w.heap.size w w' ∧ FreshAt w.heap.size w' p

set_option maxHeartbeats 1000000 in
theorem with_any (p : Option Addr) (xs : List Int) (cap : Nat) (i : Nat) (n : Int) (w : World) (hx : Ints w p xs) (hl : xs.length ≤ 1000000) (hi : i < xs.length) (hn : In64 n) :
    Calls Try.prog 23 #[.agg #[.slice p xs.length cap], .int .i64 (i : Int), .int .i64 n] w (WithPost w (xs.set i n)) := by
  obtain ⟨i0, hi0, hz0, hz1, hz2⟩ := info_parts int_info
  obtain ⟨b, off, rfl, hb, hc⟩ := hx.addr (by omega)
  obtain ⟨W, hW⟩ : ∃ W, W = ((w.alloc (Obj.cells #[Value.slice (some ⟨b, off, none⟩) xs.length cap] 24)).alloc (Obj.cells #[Value.slice none 0 0] 24)).alloc (Obj.cells #[] 3) := ⟨_, rfl⟩
  have hbW : Below w.heap.size w W := by rw [hW]; exact (((Below.refl _ _).alloc (Nat.le_refl _) _).alloc (by simp [go_sem]) _).alloc (by simp [go_sem]; omega) _
  have hWs : W.heap.size = w.heap.size + 3 := by rw [hW]; simp [go_sem]
  have hown0 : W.ownsRow (w.heap.size + 1 + 1) 3 1 (.slice (some ⟨w.heap.size + 1 + 1, 0, none⟩) 0 0) 0 [] := by
    rw [hW]
    have := World.ownsRow_made (base := w.heap.size + 1 + 1) (e := 3) (size := 1) ((w.alloc (Obj.cells #[Value.slice (some ⟨b, off, none⟩) xs.length cap] 24)).alloc (Obj.cells #[Value.slice none 0 0] 24)) #[] 0 (by simp [go_sem]) (by unfold maxLen; omega) (by simp)
    simpa [go_sem] using this
  have hc1 : ∀ j u, (xs.map (Value.int .i64))[j]? = some u → W.cell? ((⟨b, off, none⟩ : Addr).add j) = some u := by
    intro j u hu
    rw [List.getElem?_map] at hu
    cases ha : xs[j]? with
    | none => rw [ha] at hu; simp at hu
    | some a =>
      rw [ha] at hu
      simp at hu
      subst hu
      rw [addr_add, hbW.cell (p := ⟨b, off + j, none⟩) hb, ← addr_add]
      exact hc j a ha
  have k6 : ∀ w2, W.grownBy w2 (some (w.heap.size + 1 + 1)) → w2.cell? ⟨w.heap.size + 1, 0, none⟩ = some (.slice none 0 0) ∧ w2.frozen? ⟨w.heap.size + 1, 0, none⟩ = false := by
    intro w2 hg
    rw [World.cell?_of_block (hg.block (w.heap.size + 1) (by omega) (by simp)), World.frozen?_of_block (hg.block (w.heap.size + 1) (by omega) (by simp)), hW]
    simp [go_sem]
  have HW := Lib.hid hW
  have HWS := Lib.hid hWs
  have HC := Lib.hid hc1
  have HK := Lib.hid k6
  have HR := Lib.hid hx.rng
  have hmx : ∀ (v : Value) (w2 : World), w2.ownsRow (w.heap.size + 1 + 1) 3 1 v (0 + xs.length) ([] ++ xs.map (Value.int .i64)) → ∃ (g c2 : Nat), v = .slice (some ⟨g, 0, none⟩) xs.length c2 ∧ w2.ownsRow (w.heap.size + 1 + 1) 3 1 (.slice (some ⟨g, 0, none⟩) xs.length c2) xs.length (xs.map (Value.int .i64)) ∧ w.heap.size + 1 + 1 ≤ g ∧ g < w2.heap.size := by
    intro v w2 h
    rw [Nat.zero_add, List.nil_append] at h
    rcases h.2 with ⟨_, h0⟩ | ⟨g, c2, cur, hv, hbb, hg, _⟩
    · omega
    · exact ⟨g, c2, hv, by rw [hv] at h; exact h, hbb, (Array.getElem?_eq_some_iff.1 hg).1⟩
  have HM := Lib.hid hmx
  clear hW hWs hc1 k6 hmx hc
  go_enter Try.func23, Try.ntmps23
  go_wp2_with (at_builtin; rw [← HW.out]; refine wpList_append_own W rfl (.tmp 8) (.tmp 10) _ rfl (w.heap.size + 1 + 1) 3 i0 _ 1 8 Try.underlying22 hi0 hz0 hz1 hz2 rfl (by omega) _ 0 [] rfl hown0 ⟨b, off, none⟩ xs.length cap (xs.map (Value.int .i64)) rfl (by simp) HC.out (by simp [Value.oneCell']) (by unfold maxLen; omega) (by omega) (by rw [HWS.out]; omega) ?_; intro v2 w2 hown2 hg2 _; obtain ⟨g, c2, hv, hown3, hg3, hg4⟩ := HM.out v2 w2 hown2; rw [hv]; obtain ⟨kc, kf⟩ := HK.out w2 hg2; have f3 := hown3.frozenAt i; have c3 := hown3.cellAt i (by omega); rw [List.getElem?_map, List.getElem?_eq_getElem hi] at c3; simp only [Option.map_some] at c3)
  have hb2 : Below w.heap.size w w2 := hbW.grown hg2 hbW.size (by intro k hk; injection (show some (w.heap.size + 1 + 1) = some k from hk) with h; omega)
  refine bodyPost_ret (v := .agg #[.slice (some ⟨g, 0, none⟩) xs.length c2]) (by simp [results, Try.results23, go_sem, kc, kf]) rfl ?_
  have hst := (hown3.stored i (.int .i64 n)).1
  rw [← List.map_set] at hst
  have hlen : (xs.set i n).length = xs.length := by simp
  have hrng : ∀ x ∈ xs.set i n, In64 x := fun y hy => by
    rcases List.mem_or_eq_of_mem_set hy with h1 | h1
    · exact HR.out y h1
    · rw [h1]; exact hn
  have hints := (Ints.of_own hst hrng).1
  have hg1 : (w2.setCell ⟨g, i, none⟩ (.int .i64 n)).grownBy ((w2.setCell ⟨g, i, none⟩ (.int .i64 n)).setCell ⟨w.heap.size + 1, 0, none⟩ (.slice (some ⟨g, 0, none⟩) xs.length c2)) (some (w.heap.size + 1)) := grownBy_setCell' _ _ _
  refine ⟨some ⟨g, 0, none⟩, c2, by rw [hlen], ⟨fun j hj => ?_, hrng⟩, ?_, ?_⟩
  · obtain ⟨b', off', e1, e2, e3⟩ := hints.cells j hj
    refine ⟨b', off', e1, Nat.lt_of_lt_of_le e2 hg1.size, hg1.cell e3 ?_⟩
    simp only [Option.some.injEq, Addr.mk.injEq, and_true] at e1
    simp; omega
  · exact ((hb2.setCell (by show w.heap.size ≤ g; omega) _).setCell (by simp) _)
  · rcases hst.2 with ⟨h0, _⟩ | ⟨g', cp, cur, hv', _, hg', _⟩
    · simp at h0
    · simp only [Value.slice.injEq, Option.some.injEq, Addr.mk.injEq, and_true, true_and] at hv'
      obtain ⟨rfl, _⟩ := hv'
      exact ⟨g, cur, rfl, by omega, (hg1.block g (Array.getElem?_eq_some_iff.1 hg').1 (by simp; omega)).trans hg'⟩


theorem In64.of {n : Int} (h : -9223372036854775808 ≤ n ∧ n ≤ 9223372036854775807) : In64 n := h

/-- as DoPost, and the memory's cells are what they were, or a row of the call's own -/
def RDoPost (w : World) (p : Option Addr) (xs : List Int) (k c o n : Int) (e : Ending) (w' : World) : Prop :=
  ∃ q cap, e = .returned (.tuple #[.agg #[.slice q (doF xs k c o n).length cap], .agg #[.int .i64 (toldF xs k c o n).1, .bool (toldF xs k c o n).2], .int .i64 (whyF xs.length k c o n)]) ∧
    Ints w' q (doF xs k c o n) ∧ Below w.heap.size w w' ∧ (q = p ∨ FreshAt w.heap.size w' q)

theorem do_close (w w1 : World) (p : Option Addr) (q : Option Addr) (cap : Nat) (xs ys : List Int) (k c o n had err : Int) (ok : Bool) (hb : Below w.heap.size w w1) (hi : Ints w1 q ys) (hq : 0 < ys.length → ∀ b off, q = some ⟨b, off, none⟩ → b ≠ w.heap.size + 1 + 1 ∧ b ≠ w.heap.size + 1 + 1 + 1)
    (hs : q = p ∨ FreshAt (w.heap.size + 4) w1 q) (hd : doF xs k c o n = ys) (ht : toldF xs k c o n = (had, ok)) (hw : whyF xs.length k c o n = err) :
    RDoPost w p xs k c o n (.returned (.tuple #[.agg #[.slice q ys.length cap], .agg #[.int .i64 had, .bool ok], .int .i64 err]))
      (((w1.setCell ⟨w.heap.size + 1 + 1, 0, none⟩ (.slice q ys.length cap)).setCell ⟨w.heap.size + 1 + 1 + 1, 0, none⟩ (.int .i64 had)).setCell ⟨w.heap.size + 1 + 1 + 1, 1, none⟩ (.bool ok)) := by
  refine ⟨q, cap, by rw [hd, ht, hw], ?_, ((hb.setCell (by simp; omega) _).setCell (by simp; omega) _).setCell (by simp; omega) _, ?_⟩
  · rw [hd]
    exact ((hi.far _ _ fun h0 b off h => (hq h0 b off h).1).far _ _ fun h0 b off h => (hq h0 b off h).2).far _ _ fun h0 b off h => (hq h0 b off h).2
  · rcases hs with h | ⟨g, cur, h1, h2, h3⟩
    · exact .inl h
    · exact .inr ⟨g, cur, h1, by omega, (Below.heap_setCell _ _ _ _ (by simp; omega)).trans ((Below.heap_setCell _ _ _ _ (by simp; omega)).trans ((Below.heap_setCell _ _ _ _ (by simp; omega)).trans h3))⟩

theorem Ints.old {w : World} {p : Option Addr} {xs : List Int} (h : Ints w p xs) (hl : 0 < xs.length) : ∀ b off, p = some ⟨b, off, none⟩ → b < w.heap.size := by
  intro b off e
  obtain ⟨b', off', h1, h2, _⟩ := h.cells 0 hl
  rw [e] at h1; injection h1 with h1; injection h1 with h1; omega

set_option maxHeartbeats 2000000 in
theorem rdo_any (p : Option Addr) (xs : List Int) (cap : Nat) (k c o n : Int) (w : World) (hx : Ints w p xs) (hl : xs.length ≤ 1000000) (hn : In64 n) :
    Calls Try.prog 12 #[.agg #[.slice p xs.length cap], .agg #[.int .i64 k, .int .i64 c, .int .i64 o, .int .i64 n]] w (RDoPost w p xs k c o n) := by
  obtain ⟨W, hW⟩ : ∃ W, W = (((w.alloc (Obj.cells #[Value.slice p xs.length cap] 24)).alloc (Obj.cells #[Value.int .i64 k, Value.int .i64 c, Value.int .i64 o, Value.int .i64 n] 26)).alloc (Obj.cells #[Value.slice none 0 0] 24)).alloc (Obj.cells #[Value.int .i64 0, Value.bool false] 29) := ⟨_, rfl⟩
  have hbW : Below w.heap.size w W := by rw [hW]; exact ((((Below.refl _ _).alloc (Nat.le_refl _) _).alloc (by simp [go_sem]) _).alloc (by simp [go_sem]; omega) _).alloc (by simp [go_sem]; omega) _
  have hWs : W.heap.size = w.heap.size + 4 := by rw [hW]; simp [go_sem]
  have cells : ∀ w1, Below W.heap.size W w1 → w1.cell? ⟨w.heap.size, 0, none⟩ = some (.slice p xs.length cap) ∧ w1.cell? ⟨w.heap.size + 1, 0, none⟩ = some (.int .i64 k) ∧ w1.cell? ⟨w.heap.size + 1, 1, none⟩ = some (.int .i64 c) ∧ w1.cell? ⟨w.heap.size + 1, 2, none⟩ = some (.int .i64 o) ∧ w1.cell? ⟨w.heap.size + 1, 3, none⟩ = some (.int .i64 n)
      ∧ w1.cell? ⟨w.heap.size + 1 + 1, 0, none⟩ = some (.slice none 0 0) ∧ w1.cell? ⟨w.heap.size + 1 + 1 + 1, 0, none⟩ = some (.int .i64 0) ∧ w1.cell? ⟨w.heap.size + 1 + 1 + 1, 1, none⟩ = some (.bool false)
      ∧ w1.frozen? ⟨w.heap.size + 1 + 1, 0, none⟩ = false ∧ w1.frozen? ⟨w.heap.size + 1 + 1 + 1, 0, none⟩ = false ∧ w1.frozen? ⟨w.heap.size + 1 + 1 + 1, 1, none⟩ = false := by
    intro w1 hb
    have hc : ∀ b j, b < w.heap.size + 4 → w1.cell? ⟨b, j, none⟩ = W.cell? ⟨b, j, none⟩ := fun b j h => hb.cell (p := ⟨b, j, none⟩) (by show b < _; omega)
    have hf : ∀ b j, b < w.heap.size + 4 → w1.frozen? ⟨b, j, none⟩ = W.frozen? ⟨b, j, none⟩ := fun b j h => hb.frozen (p := ⟨b, j, none⟩) (by show b < _; omega)
    rw [hc _ _ (by omega), hc _ _ (by omega), hc _ _ (by omega), hc _ _ (by omega), hc _ _ (by omega), hc _ _ (by omega), hc _ _ (by omega), hc _ _ (by omega), hf _ _ (by omega), hf _ _ (by omega), hf _ _ (by omega), hW]
    simp [go_sem]
  have HWS := Lib.hid hWs
  have HC := Lib.hid cells
  have HXW := hx.later hbW
  have hqx : 0 < xs.length → ∀ b off, p = some ⟨b, off, none⟩ → b ≠ w.heap.size + 1 + 1 ∧ b ≠ w.heap.size + 1 + 1 + 1 := fun h0 b off e => by have := hx.old h0 b off e; omega
  have HQ := Lib.hid hqx
  clear hqx
  cases hr : rightB k c o n
  · have hw : whyF xs.length k c o n = 1 := by simp [whyF, hr]
    have hd : doF xs k c o n = xs := by unfold doF; rw [hw]; rfl
    have ht : toldF xs k c o n = (0, false) := by unfold toldF; rw [hw]; rfl
    have H1 := Lib.hid hw
    have H2 := Lib.hid hd
    have H3 := Lib.hid ht
    have HR := Lib.hid hr
    have HW := Lib.hid hW
    clear hw hd ht hr hW hWs cells
    go_enter Try.func12, Try.ntmps12
    go_wp2_with fail
    rw [← HW.out]
    refine (rright_any _ _ _ _ _).mono ?_
    rintro e w1 ⟨rfl, hb1⟩
    rw [HR.out]
    obtain ⟨a1, a2, a3, a4, a5, a6, a7, a8, a9, a10, a11⟩ := HC.out w1 hb1
    go_wp2_with fail
    refine bodyPost_ret (v := .tuple #[.agg #[.slice p xs.length cap], .agg #[.int .i64 0, .bool false], .int .i64 1]) (by simp [results, Try.results12, go_sem, a6, a7, a8, a9, a10, a11]) rfl ?_
    exact do_close _ _ _ _ _ _ _ _ _ _ _ _ _ _ (below_trans hbW hb1) (HXW.later hb1) HQ.out (.inl rfl) H2.out H3.out H1.out
  · have HR := Lib.hid hr
    have HW := Lib.hid hW
    have hr' := of_decide_eq_true hr
    obtain ⟨hk1, hk5, hc0, _, hn1⟩ := hr'
    have hwhy : whyF xs.length k c o n = if (xs.length : Int) ≤ c then 12 else 0 := by unfold whyF; rw [hr]; rfl
    clear hr hW hWs cells
    by_cases hc : (xs.length : Int) ≤ c
    · have hw : whyF xs.length k c o n = 12 := by rw [hwhy, if_pos hc]
      have hd : doF xs k c o n = xs := by unfold doF; rw [hw]; rfl
      have ht : toldF xs k c o n = (0, false) := by unfold toldF; rw [hw]; rfl
      have H1 := Lib.hid hw
      have H2 := Lib.hid hd
      have H3 := Lib.hid ht
      clear hw hd ht hwhy
      go_enter Try.func12, Try.ntmps12
      go_wp2_with fail
      rw [← HW.out]
      refine (rright_any _ _ _ _ _).mono ?_
      rintro e w1 ⟨rfl, hb1⟩
      rw [HR.out]
      obtain ⟨a1, a2, a3, a4, a5, a6, a7, a8, a9, a10, a11⟩ := HC.out w1 hb1
      go_wp2_with fail
      refine bodyPost_ret (v := .tuple #[.agg #[.slice p xs.length cap], .agg #[.int .i64 0, .bool false], .int .i64 12]) (by simp [results, Try.results12, go_sem, a6, a7, a8, a9, a10, a11]) rfl ?_
      exact do_close _ _ _ _ _ _ _ _ _ _ _ _ _ _ (below_trans hbW hb1) (HXW.later hb1) HQ.out (.inl rfl) H2.out H3.out H1.out
    · have hw : whyF xs.length k c o n = 0 := by rw [hwhy, if_neg hc]
      have hd : doF xs k c o n = madeF xs k c o n := by unfold doF; rw [hw]; rfl
      have ht : toldF xs k c o n = (xs.getD c.toNat 0, wentF xs k c o) := by unfold toldF; rw [hw]; rfl
      have H1 := Lib.hid hw
      clear hw hwhy
      obtain ⟨i, rfl⟩ := Int.eq_ofNat_of_zero_le hc0
      have hi : i < xs.length := by omega
      obtain ⟨had, hhad⟩ : ∃ had, xs.getD i 0 = had := ⟨_, rfl⟩
      have hw0 : ∀ (k o : Int), wentF xs k (i : Int) o = !(decide (k = 3) && decide (had ≠ o)) := by intro k o; rw [← hhad]; rfl
      have hm0 : ∀ (k o n : Int), madeF xs k (i : Int) o n = if k = 1 then xs else if k = 3 ∧ had ≠ o then xs else if k = 4 then xs.set i (wrap64 (had + n)) else xs.set i n := by intro k o n; rw [← hhad]; rfl
      have HH := Lib.hid hhad
      have HM := Lib.hid hm0
      have HWT := Lib.hid hw0
      have ht2 : toldF xs k (i : Int) o n = (had, wentF xs k (i : Int) o) := by rw [ht, ← hhad]; rfl
      have H2 := Lib.hid hd
      have H3 := Lib.hid ht2
      clear hd ht ht2 hm0 hw0 hhad
      have hcell : ∀ w1, Below W.heap.size W w1 → ∃ b off, p = some ⟨b, off, none⟩ ∧ w1.cell? ⟨b, off + i, none⟩ = some (.int .i64 had) := by
        intro w1 hb1
        obtain ⟨b, off, x, h1, _, h3, h4, _⟩ := (HXW.later hb1).at_ i hi
        refine ⟨b, off, h1, ?_⟩
        rw [h3]
        have := HH.out; rw [List.getD_eq_getElem?_getD, h4] at this
        simp at this; rw [this]
      have HCELL := Lib.hid hcell
      have hhr : In64 had := by
        have := HH.out; rw [List.getD_eq_getElem?_getD, List.getElem?_eq_getElem hi] at this
        rw [← this]; exact hx.rng _ (List.getElem_mem _)
      have hnot : ¬ ((xs.length : Int) ≤ (i : Int)) := hc
      have HXI := Lib.hid HXW
      have HL := Lib.hid hl
      clear hcell hc hx HXW hl
      by_cases h1 : k = 1
      · subst h1
        obtain rfl : n = 0 := hn1 rfl
        go_enter Try.func12, Try.ntmps12
        go_wp2_with fail
        rw [← HW.out]
        refine (rright_any _ _ _ _ _).mono ?_
        rintro e w1 ⟨rfl, hb1⟩
        rw [HR.out]
        obtain ⟨a1, a2, a3, a4, a5, a6, a7, a8, a9, a10, a11⟩ := HC.out w1 hb1
        obtain ⟨b, off, rfl, hcc⟩ := HCELL.out w1 hb1
        go_wp2_with fail
        refine bodyPost_ret (v := .tuple #[.agg #[.slice (some ⟨b, off, none⟩) xs.length cap], .agg #[.int .i64 had, .bool true], .int .i64 0]) (by simp [results, Try.results12, go_sem, a6, a7, a8, a9, a10, a11]) rfl ?_
        exact do_close _ _ _ _ _ _ _ _ _ _ _ _ _ _ (below_trans hbW hb1) (HXI.out.later hb1) HQ.out (.inl rfl) (by rw [H2.out, HM.out]; simp) (by rw [H3.out, HWT.out]; simp) H1.out
      · by_cases h3 : k = 3
        · subst h3
          by_cases ho : had = o
          · subst ho
            go_enter Try.func12, Try.ntmps12
            go_wp2_with fail
            rw [← HW.out]
            refine (rright_any _ _ _ _ _).mono ?_
            rintro e w1 ⟨rfl, hb1⟩
            rw [HR.out]
            obtain ⟨a1, a2, a3, a4, a5, a6, a7, a8, a9, a10, a11⟩ := HC.out w1 hb1
            obtain ⟨b, off, rfl, hcc⟩ := HCELL.out w1 hb1
            have hz1 := hb1.size
            rw [HWS.out] at hz1
            go_wp2_with fail
            refine (with_any _ xs cap i _ _ (HXI.out.later hb1) HL.out hi hn).mono ?_
            rintro e w2 ⟨q, cap2, rfl, hq, hb2, g, cur, rfl, hq2, hq3⟩
            obtain ⟨a1, a2, a3, a4, a5, a6, a7, a8, a9, a10, a11⟩ := HC.out w2 (below_trans hb1 hb2)
            go_wp2_with fail
            refine bodyPost_ret (v := .tuple #[.agg #[  .slice (some ⟨g, 0, none⟩) xs.length cap2], .agg #[.int .i64 had, .bool true], .int .i64 0]) (by simp [results, Try.results12, go_sem, a6, a7, a8, a9, a10, a11]) rfl ?_
            have hfin := do_close w w2 (some ⟨b, off, none⟩) (some ⟨g, 0, none⟩) cap2 xs (xs.set i n) _ (i : Int) _ _ had 0 true (below_trans hbW (below_trans hb1 hb2)) hq (fun _ b off e => by injection e with e; injection e with e; omega) (.inr ⟨g, cur, rfl, by omega, hq3⟩) (by rw [H2.out, HM.out]; simp) (by rw [H3.out, HWT.out]; simp) H1.out
            rw [List.length_set] at hfin
            exact hfin
          · have ho2 : (had == o) = false := by simpa using ho
            go_enter Try.func12, Try.ntmps12
            go_wp2_with fail
            rw [← HW.out]
            refine (rright_any _ _ _ _ _).mono ?_
            rintro e w1 ⟨rfl, hb1⟩
            rw [HR.out]
            obtain ⟨a1, a2, a3, a4, a5, a6, a7, a8, a9, a10, a11⟩ := HC.out w1 hb1
            obtain ⟨b, off, rfl, hcc⟩ := HCELL.out w1 hb1
            have hz1 := hb1.size
            rw [HWS.out] at hz1
            go_wp2_with fail
            refine bodyPost_ret (v := .tuple #[.agg #[.slice (some ⟨b, off, none⟩) xs.length cap], .agg #[.int .i64 had, .bool false], .int .i64 0]) (by simp [results, Try.results12, go_sem, a6, a7, a8, a9, a10, a11]) rfl ?_
            exact do_close _ _ _ _ _ _ _ _ _ _ _ _ _ _ (below_trans hbW hb1) (HXI.out.later hb1) HQ.out (.inl rfl) (by rw [H2.out, HM.out]; simp [ho]) (by rw [H3.out, HWT.out]; simp [ho]) H1.out
        · by_cases h4 : k = 4
          · subst h4
            go_enter Try.func12, Try.ntmps12
            go_wp2_with fail
            rw [← HW.out]
            refine (rright_any _ _ _ _ _).mono ?_
            rintro e w1 ⟨rfl, hb1⟩
            rw [HR.out]
            obtain ⟨a1, a2, a3, a4, a5, a6, a7, a8, a9, a10, a11⟩ := HC.out w1 hb1
            obtain ⟨b, off, rfl, hcc⟩ := HCELL.out w1 hb1
            have hz1 := hb1.size
            rw [HWS.out] at hz1
            go_wp2_with fail
            refine (with_any _ xs cap i _ _ (HXI.out.later hb1) HL.out hi (by unfold In64 wrap64; omega)).mono ?_
            rintro e w2 ⟨q, cap2, rfl, hq, hb2, g, cur, rfl, hq2, hq3⟩
            obtain ⟨a1, a2, a3, a4, a5, a6, a7, a8, a9, a10, a11⟩ := HC.out w2 (below_trans hb1 hb2)
            go_wp2_with fail
            refine bodyPost_ret (v := .tuple #[.agg #[  .slice (some ⟨g, 0, none⟩) xs.length cap2], .agg #[.int .i64 had, .bool true], .int .i64 0]) (by simp [results, Try.results12, go_sem, a6, a7, a8, a9, a10, a11]) rfl ?_
            have hfin := do_close w w2 (some ⟨b, off, none⟩) (some ⟨g, 0, none⟩) cap2 xs (xs.set i (wrap64 (had + n))) _ (i : Int) _ _ had 0 true (below_trans hbW (below_trans hb1 hb2)) hq (fun _ b off e => by injection e with e; injection e with e; omega) (.inr ⟨g, cur, rfl, by omega, hq3⟩) (by rw [H2.out, HM.out]; simp) (by rw [H3.out, HWT.out]; simp) H1.out
            rw [List.length_set] at hfin
            exact hfin
          · have hm5 : madeF xs k (i : Int) o n = xs.set i n := by rw [HM.out, if_neg h1, if_neg (by simp [h3]), if_neg h4]
            have HM5 := Lib.hid hm5
            have hw5 : wentF xs k (i : Int) o = true := by rw [HWT.out]; simp [h3]
            have HW5 := Lib.hid hw5
            clear hm5 hw5
            go_enter Try.func12, Try.ntmps12
            go_wp2_with fail
            rw [← HW.out]
            refine (rright_any _ _ _ _ _).mono ?_
            rintro e w1 ⟨rfl, hb1⟩
            rw [HR.out]
            obtain ⟨a1, a2, a3, a4, a5, a6, a7, a8, a9, a10, a11⟩ := HC.out w1 hb1
            obtain ⟨b, off, rfl, hcc⟩ := HCELL.out w1 hb1
            have hz1 := hb1.size
            rw [HWS.out] at hz1
            go_wp2_with fail
            refine (with_any _ xs cap i _ _ (HXI.out.later hb1) HL.out hi hn).mono ?_
            rintro e w2 ⟨q, cap2, rfl, hq, hb2, g, cur, rfl, hq2, hq3⟩
            obtain ⟨a1, a2, a3, a4, a5, a6, a7, a8, a9, a10, a11⟩ := HC.out w2 (below_trans hb1 hb2)
            go_wp2_with fail
            refine bodyPost_ret (v := .tuple #[.agg #[  .slice (some ⟨g, 0, none⟩) xs.length cap2], .agg #[.int .i64 had, .bool true], .int .i64 0]) (by simp [results, Try.results12, go_sem, a6, a7, a8, a9, a10, a11]) rfl ?_
            have hfin := do_close w w2 (some ⟨b, off, none⟩) (some ⟨g, 0, none⟩) cap2 xs (xs.set i n) _ (i : Int) _ _ had 0 true (below_trans hbW (below_trans hb1 hb2)) hq (fun _ b off e => by injection e with e; injection e with e; omega) (.inr ⟨g, cur, rfl, by omega, hq3⟩) (by rw [H2.out, HM5.out]) (by rw [H3.out, HW5.out]) H1.out
            rw [List.length_set] at hfin
            exact hfin

end Go.Proofs.Ytnjpdgahjbijcaa
