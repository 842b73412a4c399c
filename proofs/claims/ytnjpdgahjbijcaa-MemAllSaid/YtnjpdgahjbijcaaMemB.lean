/-
  MEM: the contracts of clone, touch.
-/
import Derived.Test.YtnjpdgahjbijcaaMemA
import Derived.Laws.CopyOwn
import Derived.Test.YtnjpdgahjbijcaaBlk
namespace Go.Proofs.Ytnjpdgahjbijcaa
open Go.ChangeShapes Go.WideShapes Go.ChangeAt Go.RowKit

theorem int_info : (Try.prog.info? 3).map (fun i => (i.zero, i.size, i.bytes)) = some (some (.int .i64 0), 1, 8) := by kernel_rfl

/-- a slice of the call's own, whole: block g from base on -/
def OwnInts (w : World) (base g : Nat) (xs : List Int) : Prop :=
  w.ownsRow base 3 1 (.slice (some ⟨g, 0, none⟩) xs.length xs.length) xs.length (xs.map (Value.int .i64)) ∧ ∀ x ∈ xs, In64 x

theorem own_of_heap {w : World} {base g n : Nat} {e : TypeId} {arr : List Value} (h : w.heap[g]? = some (.cells arr.toArray e (0, 0))) (hb : base ≤ g) (hn : arr.length = n) (hm : n ≤ maxLen) :
    w.ownsRow base e 1 (.slice (some ⟨g, 0, none⟩) n n) n arr :=
  ⟨by omega, .inr ⟨g, n, arr.toArray, rfl, hb, h, Nat.le_refl _, hm, by simpa using hn, by rw [Nat.mul_one, ← hn]; simp⟩⟩

theorem row_of_own {w : World} {base g n : Nat} {e : TypeId} {L : List Value} (h : w.ownsRow base e 1 (.slice (some ⟨g, 0, none⟩) n n) n L) :
    ∃ arr : List Value, w.heap[g]? = some (.cells arr.toArray e (0, 0)) ∧ arr.length = n ∧ L = arr := by
  rcases h.2 with ⟨h0, _⟩ | ⟨g', cp, cur, hv, _, hg, _, _, hsz, ht⟩
  · simp at h0
  · simp only [Value.slice.injEq, Option.some.injEq, Addr.mk.injEq, and_true, true_and] at hv
    obtain ⟨rfl, rfl⟩ := hv
    refine ⟨cur.toList, by simpa using hg, by rw [Array.length_toList, hsz, Nat.mul_one], ?_⟩
    rw [← ht]
    exact List.take_of_length_le (by rw [Array.length_toList, hsz]; omega)

def ClonePost (w : World) (xs : List Int) (e : Ending) (w' : World) : Prop :=
  ∃ g, e = .returned (.agg #[.slice (some ⟨g, 0, none⟩) xs.length xs.length]) ∧ OwnInts w' w.heap.size g xs ∧ Below w.heap.size w w'

set_option maxHeartbeats 1000000 in
theorem clone_any (p : Option Addr) (xs : List Int) (cap : Nat) (w : World) (hx : Ints w p xs) (hl : xs.length ≤ 1000000) :
    Calls Try.prog 21 #[.agg #[.slice p xs.length cap]] w (ClonePost w xs) := by
  obtain ⟨i0, hi0, hz0, hz1, hz2⟩ := info_parts int_info
  go_enter Try.func21, Try.ntmps21
  go_wp2_with (first | (refine wpList_make_full _ rfl (.tmp 6) (.tmp 6) _ rfl w.heap.size 3 i0 _ 1 Try.underlying22 hi0 hz0 hz1 _ _ _ _ xs.length rfl rfl rfl rfl (by rw [hz2]; omega) (by unfold maxLen; omega) (by simp [go_sem]; omega) ?_; intro w1 hown1 hg1; obtain ⟨W, hW⟩ : ∃ W, W = (w.alloc (Obj.cells #[Value.slice p xs.length cap] 24)).alloc (Obj.cells #[Value.slice none 0 0] 24) := ⟨_, rfl⟩; rw [← hW] at hown1 hg1 ⊢; have hWs : W.heap.size = w.heap.size + 2 := (by rw [hW]; simp [go_sem]); have hbW : Below w.heap.size w W := (by rw [hW]; exact ((Below.refl _ _).alloc (Nat.le_refl _) _).alloc (by simp [go_sem]) _); have hb1 : Below W.heap.size W w1 := ((Below.refl _ _).grown hg1 (Nat.le_refl _) (by simp)); have k0 : w1.cell? ⟨w.heap.size, 0, none⟩ = some (.slice p xs.length cap) := (by rw [hb1.cell (p := ⟨w.heap.size, 0, none⟩) (by show w.heap.size < _; omega), hW]; simp [go_sem]); have hx1 : Ints w1 p xs := ((hx.later hbW).later hb1); obtain ⟨arr, harr, hlen, _⟩ := row_of_own hown1; rw [hWs] at harr; rw [hWs]; have HARR := Lib.hid harr; have HLEN := Lib.hid hlen; have HWS := Lib.hid hWs; have HW := Lib.hid hW; clear hown1 harr hlen hg1 hW hWs) | (refine wpList_copy_splice rfl (.tmp 8) (.tmp 10) _ _ rfl 3 Try.underlying22 (by kernel_rfl) _ _ _ _ _ _ rfl rfl (w.heap.size + 2) 0 arr _ HARR.out (xs.map (Value.int .i64)) ?_ ?_ ?_ ?_ W.heap.size W hb1 ?_ ?_; rotate_right; intro w2 hh2 hb2; have k2 : w2.cell? ⟨w.heap.size + 1, 0, none⟩ = some (.slice none 0 0) := (by rw [hb2.cell (p := ⟨w.heap.size + 1, 0, none⟩) (by show w.heap.size + 1 < _; rw [HWS.out]; omega), HW.out]; simp [go_sem]); have f2 : w2.frozen? ⟨w.heap.size + 1, 0, none⟩ = false := (by rw [hb2.frozen (p := ⟨w.heap.size + 1, 0, none⟩) (by show w.heap.size + 1 < _; rw [HWS.out]; omega), HW.out]; simp [go_sem])))
  case refine_1 => simp
  case refine_2 =>
    intro h0
    obtain ⟨b, off, rfl, _, h3⟩ := hx1.addr h0
    exact ⟨_, rfl, h3⟩
  case refine_3 => rw [HLEN.out]; simp
  case refine_4 => simp [Value.oneCell']
  case refine_5 => rw [HWS.out]; omega
  refine bodyPost_ret (v := .agg #[.slice (some ⟨w.heap.size + 2, 0, none⟩) xs.length xs.length]) (by simp [results, Try.results21, go_sem, k2, f2]) rfl ?_
  have hs : splice arr 0 (xs.map (Value.int .i64)) = xs.map (Value.int .i64) := by
    unfold splice; simp; rw [HLEN.out]; omega
  have hrow := hh2.out
  rw [hs] at hrow
  have hb3 : Below w.heap.size w (w2.setCell ⟨w.heap.size + 1, 0, none⟩ (.slice (some ⟨w.heap.size + 2, 0, none⟩) xs.length xs.length)) :=
    (hbW.trans (hb2.mono hbW.size)).setCell (by simp) _
  refine ⟨w.heap.size + 2, rfl, ⟨own_of_heap ((Below.heap_setCell w2 _ _ _ (by simp)).trans hrow) (by omega) (by simp) (by unfold maxLen; omega), hx.rng⟩, hb3⟩


theorem OwnInts.cell {w : World} {base g : Nat} {xs : List Int} (h : OwnInts w base g xs) (i : Nat) (hi : i < xs.length) : w.cell? ⟨g, i, none⟩ = some (.int .i64 xs[i]) := by
  rw [h.1.cellAt i (by omega)]; simp [hi]
theorem OwnInts.frozen {w : World} {base g : Nat} {xs : List Int} (h : OwnInts w base g xs) (i : Nat) : w.frozen? ⟨g, i, none⟩ = false := h.1.frozenAt i
theorem OwnInts.lt {w : World} {base g : Nat} {xs : List Int} (h : OwnInts w base g xs) : base ≤ g ∧ g < w.heap.size := h.1.lt g rfl
theorem OwnInts.ints {w : World} {base g : Nat} {xs : List Int} (h : OwnInts w base g xs) : Ints w (some ⟨g, 0, none⟩) xs := (Ints.of_own h.1 h.2).1
theorem OwnInts.later {w w1 : World} {base g : Nat} {xs : List Int} (h : OwnInts w base g xs) (hb : Below w.heap.size w w1) : OwnInts w1 base g xs := by
  obtain ⟨arr, h1, h2, h3⟩ := row_of_own h.1
  have hlt := h.lt
  refine ⟨?_, h.2⟩
  rw [h3]
  exact own_of_heap ((hb.block g hlt.2).trans h1) hlt.1 h2 (by
    rcases h.1.2 with ⟨h0, _⟩ | ⟨_, _, _, hv, _, _, hn, hm, _⟩
    · simp at h0
    · omega)
theorem OwnInts.stored {w : World} {base g : Nat} {xs : List Int} (h : OwnInts w base g xs) (i : Nat) (x : Int) (hx : In64 x) : OwnInts (w.setCell ⟨g, i, none⟩ (.int .i64 x)) base g (xs.set i x) := by
  have := (h.1.stored i (.int .i64 x)).1
  refine ⟨?_, fun y hy => ?_⟩
  · rw [List.length_set, List.map_set]; exact this
  · rcases List.mem_or_eq_of_mem_set hy with h1 | h1
    · exact h.2 y h1
    · rw [h1]; exact hx

theorem OwnInts.alloc {w : World} {base g : Nat} {xs : List Int} (h : OwnInts w base g xs) (o : Obj) : OwnInts (w.alloc o) base g xs := h.later ((Below.refl _ _).alloc (Nat.le_refl _) _)

theorem OwnInts.drew {w : World} {base g : Nat} {xs : List Int} (h : OwnInts w base g xs) : OwnInts w.drew base g xs := ⟨h.1.drew, h.2⟩
theorem OwnInts.far {w : World} {base g : Nat} {xs : List Int} (h : OwnInts w base g xs) {p : Addr} (hp : g ≠ p.block) (u : Value) : OwnInts (w.setCell p u) base g xs := by
  obtain ⟨arr, h1, h2, h3⟩ := row_of_own h.1
  refine ⟨?_, h.2⟩
  rw [h3]
  exact own_of_heap ((Below.heap_setCell w p u g hp).trans h1) h.lt.1 h2 (by
    rcases h.1.2 with ⟨h0, _⟩ | ⟨_, _, _, hv, _, _, hn, hm, _⟩
    · simp at h0
    · omega)

/-- what an access that may be done makes of the cells, and tells -/
def madeF (xs : List Int) (k c o n : Int) : List Int :=
  if k = 1 then xs else if k = 3 ∧ xs.getD c.toNat 0 ≠ o then xs else if k = 4 then xs.set c.toNat (wrap64 (xs.getD c.toNat 0 + n)) else xs.set c.toNat n
def wentF (xs : List Int) (k c o : Int) : Bool := !(decide (k = 3) && decide (xs.getD c.toNat 0 ≠ o))

theorem madeF_length (xs : List Int) (k c o n : Int) : (madeF xs k c o n).length = xs.length := by
  unfold madeF; split
  · rfl
  · split
    · rfl
    · split <;> simp


def TouchPost (w : World) (base g : Nat) (xs : List Int) (k c o n : Int) (e : Ending) (w' : World) : Prop :=
  e = .returned (.agg #[.int .i64 (xs.getD c.toNat 0), .bool (wentF xs k c o)]) ∧ OwnInts w' base g (madeF xs k c o n) ∧ w.grownBy w' (some g)

theorem touch_stored (w : World) (base g i : Nat) (xs : List Int) (k o n had v : Int) (A B : Obj) (hx : OwnInts w base g xs) (hh : xs.getD i 0 = had) (hv : In64 v)
    (hm : madeF xs k (i : Int) o n = xs.set i v) (hw : wentF xs k (i : Int) o = true) :
    TouchPost w base g xs k (i : Int) o n (.returned (.agg #[.int .i64 had, .bool true])) (((w.setCell ⟨g, i, none⟩ (.int .i64 v)).alloc A).alloc B) := by
  have hlt := hx.lt
  refine ⟨?_, ?_, ?_⟩
  · rw [hw, ← hh]; rfl
  · rw [hm]; exact ((hx.stored i v hv).alloc _).alloc _
  · exact gb_trans (hx.1.stored i (.int .i64 v)).2 (gb_trans (World.grownBy_alloc _ _ _) (World.grownBy_alloc _ _ _))
theorem touch_same (w : World) (base g i : Nat) (xs : List Int) (k o n had : Int) (b : Bool) (A B : Obj) (hx : OwnInts w base g xs) (hh : xs.getD i 0 = had)
    (hm : madeF xs k (i : Int) o n = xs) (hw : wentF xs k (i : Int) o = b) :
    TouchPost w base g xs k (i : Int) o n (.returned (.agg #[.int .i64 had, .bool b])) ((w.alloc A).alloc B) := by
  have hlt := hx.lt
  refine ⟨?_, ?_, ?_⟩
  · rw [hw, ← hh]; rfl
  · rw [hm]; exact (hx.alloc _).alloc _
  · exact gb_trans (World.grownBy_alloc _ _ _) (World.grownBy_alloc _ _ _)

set_option maxHeartbeats 2000000 in
theorem touch_any (base g : Nat) (xs : List Int) (k c o n : Int) (w : World) (hx : OwnInts w base g xs) (hr : rightB k c o n = true) (hc : c < xs.length) (hn : In64 n) :
    Calls Try.prog 22 #[.slice (some ⟨g, 0, none⟩) xs.length xs.length, .agg #[.int .i64 k, .int .i64 c, .int .i64 o, .int .i64 n]] w (TouchPost w base g xs k c o n) := by
  have hr' := of_decide_eq_true hr
  obtain ⟨hk1, hk5, hc0, _, hn1⟩ := hr'
  obtain ⟨i, rfl⟩ := Int.eq_ofNat_of_zero_le hc0
  have hi : i < xs.length := by omega
  have hlt := hx.lt
  obtain ⟨had, hhad⟩ : ∃ had, xs.getD i 0 = had := ⟨_, rfl⟩
  have hcell : w.cell? ⟨g, i, none⟩ = some (.int .i64 had) := by
    rw [hx.cell i hi, ← hhad, List.getD_eq_getElem?_getD, List.getElem?_eq_getElem hi]; rfl
  have hfr := hx.frozen i
  have hw0 : ∀ (k o : Int), wentF xs k (i : Int) o = !(decide (k = 3) && decide (had ≠ o)) := by intro k o; rw [← hhad]; rfl
  have hm0 : ∀ (k o n : Int), madeF xs k (i : Int) o n = if k = 1 then xs else if k = 3 ∧ had ≠ o then xs else if k = 4 then xs.set i (wrap64 (had + n)) else xs.set i n := by intro k o n; rw [← hhad]; rfl
  have HH := Lib.hid hhad
  have HW := Lib.hid hw0
  have HM := Lib.hid hm0
  clear hhad hr hw0 hm0
  by_cases h4 : k = 4
  · subst h4
    go_enter Try.func22, Try.ntmps22
    go_wp2_with fail
    exact bodyPost_ret (v := .agg #[.int .i64 had, .bool true]) (by simp [results, Try.results22, go_sem]) rfl (touch_stored _ _ _ _ _ _ _ _ _ _ _ _ hx HH.out (by unfold In64 wrap64; omega) (by rw [HM.out]; simp) (by rw [HW.out]; simp))
  · by_cases h3 : k = 3
    · subst h3
      by_cases ho : had = o
      · subst ho
        go_enter Try.func22, Try.ntmps22
        go_wp2_with fail
        exact bodyPost_ret (v := .agg #[.int .i64 had, .bool true]) (by simp [results, Try.results22, go_sem]) rfl (touch_stored _ _ _ _ _ _ _ _ _ _ _ _ hx HH.out hn (by rw [HM.out]; simp) (by rw [HW.out]; simp))
      · go_enter Try.func22, Try.ntmps22
        go_wp2_with fail
        exact bodyPost_ret (v := .agg #[.int .i64 had, .bool false]) (by simp [results, Try.results22, go_sem]) rfl (touch_same _ _ _ _ _ _ _ _ _ _ _ _ hx HH.out (by rw [HM.out]; simp [ho]) (by rw [HW.out]; simp [ho]))
    · by_cases h1 : k = 1
      · subst h1
        obtain rfl : n = 0 := hn1 rfl
        go_enter Try.func22, Try.ntmps22
        go_wp2_with fail
        exact bodyPost_ret (v := .agg #[.int .i64 had, .bool true]) (by simp [results, Try.results22, go_sem]) rfl (touch_same _ _ _ _ _ _ _ _ _ _ _ _ hx HH.out (by rw [HM.out]; simp) (by rw [HW.out]; simp))
      · by_cases h2 : k = 2
        · subst h2
          go_enter Try.func22, Try.ntmps22
          go_wp2_with fail
          exact bodyPost_ret (v := .agg #[.int .i64 had, .bool true]) (by simp [results, Try.results22, go_sem]) rfl (touch_stored _ _ _ _ _ _ _ _ _ _ _ _ hx HH.out hn (by rw [HM.out]; simp) (by rw [HW.out]; simp))
        · obtain rfl : k = 5 := by omega
          go_enter Try.func22, Try.ntmps22
          go_wp2_with fail
          exact bodyPost_ret (v := .agg #[.int .i64 had, .bool true]) (by simp [results, Try.results22, go_sem]) rfl (touch_stored _ _ _ _ _ _ _ _ _ _ _ _ hx HH.out hn (by rw [HM.out]; simp) (by rw [HW.out]; simp))

end Go.Proofs.Ytnjpdgahjbijcaa
