/-
  MEM: accesses, one behind the other: All.
-/
import Derived.Test.YtnjpdgahjbijcaaMemC
namespace Go.Proofs.Ytnjpdgahjbijcaa
open Go.ChangeShapes Go.WideShapes Go.ChangeAt Go.RowKit

/-- an access -/
structure Acc where
  k : Int
  c : Int
  o : Int
  n : Int
def Acc.v (a : Acc) : Value := .agg #[.int .i64 a.k, .int .i64 a.c, .int .i64 a.o, .int .i64 a.n]
def Acc.cs (a : Acc) : Array Value := #[.int .i64 a.k, .int .i64 a.c, .int .i64 a.o, .int .i64 a.n]

/-- accesses that came in -/
structure Accs (w : World) (p : Option Addr) (l : List Acc) : Prop where
  at_ : ∀ i, (h : i < l.length) → ∃ b off, p = some ⟨b, off, none⟩ ∧ b < w.heap.size ∧ w.cell? ⟨b, off + i * 4, none⟩ = some (.int .i64 l[i].k) ∧ w.cell? ⟨b, off + i * 4 + 1, none⟩ = some (.int .i64 l[i].c) ∧
    w.cell? ⟨b, off + i * 4 + 2, none⟩ = some (.int .i64 l[i].o) ∧ w.cell? ⟨b, off + i * 4 + 3, none⟩ = some (.int .i64 l[i].n)
  rng : ∀ a ∈ l, In64 a.n

theorem Accs.later {w w1 : World} {p : Option Addr} {l : List Acc} (h : Accs w p l) (hb : Below w.heap.size w w1) : Accs w1 p l :=
  ⟨fun i hi => by
    obtain ⟨b, off, h1, h2, h3, h4, h5, h6⟩ := h.at_ i hi
    have hc : ∀ j, w1.cell? ⟨b, j, none⟩ = w.cell? ⟨b, j, none⟩ := fun j => hb.cell (p := ⟨b, j, none⟩) h2
    exact ⟨b, off, h1, Nat.lt_of_lt_of_le h2 hb.size, by rw [hc]; exact h3, by rw [hc]; exact h4, by rw [hc]; exact h5, by rw [hc]; exact h6⟩, h.rng⟩

/-- the cells behind the first k accesses; what they told; why one of them can't be done -/
def madeTo (xs : List Int) (l : List Acc) : Nat → List Int
  | 0 => xs
  | k + 1 => match l[k]? with
    | some a => madeF (madeTo xs l k) a.k a.c a.o a.n
    | none => madeTo xs l k
def toldAt (xs : List Int) (l : List Acc) (k : Nat) : Int × Bool := match l[k]? with
  | some a => ((madeTo xs l k).getD a.c.toNat 0, wentF (madeTo xs l k) a.k a.c a.o)
  | none => (0, false)
def toldTo (xs : List Int) (l : List Acc) (k : Nat) : List (Int × Bool) := (List.range k).map (toldAt xs l)
def whyAt (n : Nat) (l : List Acc) (k : Nat) : Int := match l[k]? with
  | some a => whyF n a.k a.c a.o a.n
  | none => 0
def whyTo (n : Nat) (l : List Acc) : Nat → Int
  | 0 => 0
  | k + 1 => if whyTo n l k = 0 then whyAt n l k else whyTo n l k

theorem madeTo_length (xs : List Int) (l : List Acc) (k : Nat) : (madeTo xs l k).length = xs.length := by
  induction k with
  | zero => rfl
  | succ k ih =>
    simp only [madeTo]
    split
    · rw [madeF_length, ih]
    · exact ih

theorem whyTo_stays (n : Nat) (l : List Acc) (k m : Nat) (h : whyTo n l k ≠ 0) (hm : k ≤ m) : whyTo n l m = whyTo n l k := by
  induction m with
  | zero => obtain rfl : k = 0 := by omega
            rfl
  | succ m ih =>
    by_cases e : k = m + 1
    · subst e; rfl
    · have h1 := ih (by omega)
      simp only [whyTo]; rw [h1, if_neg h]

def resCells (rs : List (Int × Bool)) : List Value := rs.flatMap fun r => [.int .i64 r.1, .bool r.2]
theorem resCells_length (rs : List (Int × Bool)) : (resCells rs).length = rs.length * 2 := by
  unfold resCells
  induction rs with
  | nil => rfl
  | cons r rs ih => simp only [List.flatMap_cons, List.length_append, ih, List.length_cons, List.length_nil]; omega
theorem resCells_snoc (rs : List (Int × Bool)) (r : Int × Bool) : resCells (rs ++ [r]) = resCells rs ++ [.int .i64 r.1, .bool r.2] := by
  unfold resCells; simp
theorem resCells_at (rs : List (Int × Bool)) (i : Nat) (hi : i < rs.length) : (resCells rs)[i * 2]? = some (.int .i64 rs[i].1) ∧ (resCells rs)[i * 2 + 1]? = some (.bool rs[i].2) := by
  induction rs generalizing i with
  | nil => simp at hi
  | cons r rs ih =>
    have e : resCells (r :: rs) = .int .i64 r.1 :: .bool r.2 :: resCells rs := by unfold resCells; simp
    rw [e]
    cases i with
    | zero => simp
    | succ i =>
      have h1 : (i + 1) * 2 = i * 2 + 1 + 1 := by omega
      have := ih i (by simpa using hi)
      rw [h1]
      simpa using this

theorem res_info : (Try.prog.info? 29).map (fun i => (i.zero, i.size, i.bytes)) = some (some (.agg #[.int .i64 0, .bool false]), 2, 16) := by kernel_rfl

/-- how accesses end: the memory, what was told, why not -/
def AllPost (w : World) (xs : List Int) (l : List Acc) (e : Ending) (w' : World) : Prop :=
  ∃ p cap q n cap2, e = .returned (.tuple #[.agg #[.slice p xs.length cap], .slice q n cap2, .int .i64 (whyTo xs.length l l.length)]) ∧ Below w.heap.size w w' ∧
    (if whyTo xs.length l l.length = 0 then Ints w' p (madeTo xs l l.length) ∧ n = l.length ∧ Cells w' q (resCells (toldTo xs l l.length)) else Ints w' p xs ∧ q = none ∧ n = 0 ∧ cap2 = 0)

/-- as AllPost, and a nil row of what was told has no capacity -/
def AllPost2 (w : World) (xs : List Int) (l : List Acc) (e : Ending) (w' : World) : Prop :=
  ∃ p cap q n cap2, e = .returned (.tuple #[.agg #[.slice p xs.length cap], .slice q n cap2, .int .i64 (whyTo xs.length l l.length)]) ∧ Below w.heap.size w w' ∧ (q = none → cap2 = 0) ∧
    (if whyTo xs.length l l.length = 0 then Ints w' p (madeTo xs l l.length) ∧ n = l.length ∧ Cells w' q (resCells (toldTo xs l l.length)) else Ints w' p xs ∧ q = none ∧ n = 0 ∧ cap2 = 0)

/-- what stands at the head of each round -/
structure AllInv (w : World) (p : Option Addr) (cap : Nat) (xs : List Int) (l : List Acc) (bt g : Nat) (wr : World) (k : Nat) (t : Value) : Prop where
  m0 : Blk wr w.heap.size 24 #[Value.slice p xs.length cap]
  m1 : Blk wr (w.heap.size + 1) 24 #[Value.slice none 0 0]
  m7 : Blk wr bt 24 #[Value.slice (some ⟨g, 0, none⟩) xs.length xs.length]
  own : OwnInts wr (w.heap.size + 2) g (madeTo xs l k)
  told : wr.ownsRow (bt + 1) 29 2 t k (resCells (toldTo xs l k))
  bel : Below w.heap.size w wr
  ok : whyTo xs.length l k = 0

theorem OwnInts.base {w : World} {base base2 g : Nat} {xs : List Int} (h : OwnInts w base g xs) (hb : base2 ≤ g) : OwnInts w base2 g xs := by
  obtain ⟨arr, h1, h2, h3⟩ := row_of_own h.1
  refine ⟨?_, h.2⟩
  rw [h3]
  exact own_of_heap h1 hb h2 (by
    rcases h.1.2 with ⟨h0, _⟩ | ⟨_, _, _, hv, _, _, hn, hm, _⟩
    · simp at h0
    · omega)
theorem OwnInts.beside {w w1 : World} {base g : Nat} {xs : List Int} {row : Option Nat} (h : OwnInts w base g xs) (hg : w.grownBy w1 row) (hr : some g ≠ row) : OwnInts w1 base g xs := by
  obtain ⟨arr, h1, h2, h3⟩ := row_of_own h.1
  refine ⟨?_, h.2⟩
  rw [h3]
  exact own_of_heap ((hg.block g h.lt.2 hr).trans h1) h.lt.1 h2 (by
    rcases h.1.2 with ⟨h0, _⟩ | ⟨_, _, _, hv, _, _, hn, hm, _⟩
    · simp at h0
    · omega)

set_option maxHeartbeats 4000000 in
theorem all_any2 (p q : Option Addr) (xs : List Int) (cap cap2 : Nat) (l : List Acc) (w : World) (hx : Ints w p xs) (hl : xs.length ≤ 1000000) (ha : Accs w q l) (hal : l.length ≤ 1000000) :
    Calls Try.prog 17 #[.agg #[.slice p xs.length cap], .slice q l.length cap2] w (AllPost2 w xs l) := by
  obtain ⟨i0, hi0, hz0, hz1, hz2⟩ := info_parts res_info
  go_enter Try.func17, Try.ntmps17
  go_wp2_with fail
  obtain ⟨W, hW⟩ : ∃ W, W = (w.alloc (Obj.cells #[Value.slice p xs.length cap] 24)).alloc (Obj.cells #[Value.slice none 0 0] 24) := ⟨_, rfl⟩
  have hbW : Below w.heap.size w W := by rw [hW]; exact ((Below.refl _ _).alloc (Nat.le_refl _) _).alloc (by simp [go_sem]) _
  have hWs : W.heap.size = w.heap.size + 2 := by rw [hW]; simp [go_sem]
  have B0 : Blk W w.heap.size 24 #[Value.slice p xs.length cap] := by rw [hW]; exact (Blk.made _ _ _).alloc _
  have B1 : Blk W (w.heap.size + 1) 24 #[Value.slice none 0 0] := by rw [hW]; have := Blk.made (w.alloc (Obj.cells #[Value.slice p xs.length cap] 24)) 24 #[Value.slice none 0 0]; simpa [go_sem] using this
  rw [← hW]
  clear hW
  refine (clone_any p xs cap _ (hx.later hbW) hl).mono ?_
  rintro e w1 ⟨g, rfl, hown, hb1⟩
  have hg := hown.lt
  have C0 := B0.later hb1
  have C1 := B1.later hb1
  clear B0 B1
  obtain ⟨W1, hW1⟩ : ∃ W1, W1 = w1.alloc (Obj.cells #[Value.slice (some ⟨g, 0, none⟩) xs.length xs.length] 24) := ⟨_, rfl⟩
  have hW1s : W1.heap.size = w1.heap.size + 1 := by rw [hW1]; simp [go_sem]
  have D7 : Blk W1 w1.heap.size 24 #[Value.slice (some ⟨g, 0, none⟩) xs.length xs.length] := by rw [hW1]; exact Blk.made _ _ _
  have D0 : Blk W1 w.heap.size 24 #[Value.slice p xs.length cap] := by rw [hW1]; exact C0.alloc _
  have D1 : Blk W1 (w.heap.size + 1) 24 #[Value.slice none 0 0] := by rw [hW1]; exact C1.alloc _
  have DO : OwnInts W1 W.heap.size g xs := by rw [hW1]; exact hown.alloc _
  have DB : Below w.heap.size w W1 := by rw [hW1]; exact (below_trans hbW hb1).alloc (by have := hbW.size; have := hb1.size; omega) _
  have HW1 := Lib.hid hW1
  have hW1b := Lib.hid hW1s
  clear hW1 hW1s
  go_wp2_with (rw [← HW1.out]; refine wpList_make_own W1 rfl (.const (.int .i64 0)) (.tmp 15) _ rfl W1.heap.size 29 i0 _ 2 Try.underlying37 hi0 hz0 hz1 _ _ _ l.length rfl rfl rfl (by rw [hz2]; omega) (by unfold maxLen; omega) (Nat.le_refl _) ?_; intro w2 hown2 hg2)
  have hb2 : Below W1.heap.size W1 w2 := (Below.refl _ _).grown hg2 (Nat.le_refl _) (by simp)
  have I0 : AllInv w p cap xs l w1.heap.size g w2 0 (.slice (some ⟨W1.heap.size, 0, none⟩) 0 l.length) :=
    ⟨D0.later hb2, D1.later hb2, D7.later hb2, (DO.later hb2).base (by omega), by rw [← hW1b.out]; exact hown2, below_trans DB hb2, rfl⟩
  have HG : w.heap.size + 2 ≤ g ∧ g < w1.heap.size := by omega
  clear D0 D1 D7 DO DB C0 C1 hown2 hg2 hb2 hown hb1 hg hbW hWs HW1
  go_loopw [8, 19] (fun t i wr => ∃ k : Nat, k ≤ l.length ∧ i = .int .i64 k ∧ AllInv w p cap xs l w1.heap.size g wr k t) (fun _ i _ => l.length - (intOf i).toNat)
  case atStart => exact ⟨0, Nat.zero_le _, rfl, I0⟩
  case round =>
    obtain ⟨k, hk, rfl, I⟩ := hrel
    clear I0
    by_cases hlt : k < l.length
    · obtain ⟨b, off, hq, hbq, c0, c1, c2, c3⟩ := (ha.later I.bel).at_ k hlt
      have hr := ha.rng _ (List.getElem_mem hlt)
      obtain ⟨a, hae⟩ : ∃ a, l[k] = a := ⟨_, rfl⟩
      have hak : l[k]? = some a := by rw [List.getElem?_eq_getElem hlt, hae]
      rw [hae] at c0 c1 c2 c3 hr
      subst hq
      have HAK := Lib.hid hak
      clear hae hak
      have e0 : wr.cell? ⟨w.heap.size, 0, none⟩ = some (.slice p xs.length cap) := I.m0.cell 0
      have l0 := I.m0.lt
      go_wp2_with fail
      obtain ⟨W2, hW2⟩ : ∃ W2, W2 = wr.alloc (Obj.cells a.cs 26) := ⟨_, rfl⟩
      have E10 : Blk W2 wr.heap.size 26 a.cs := by rw [hW2]; exact Blk.made _ _ _
      have bW2 : Below wr.heap.size wr W2 := by rw [hW2]; exact (Below.refl _ _).alloc (Nat.le_refl _) _
      have hW2' : W2 = wr.alloc (Obj.cells #[Value.int IntKind.i64 a.k, Value.int IntKind.i64 a.c, Value.int IntKind.i64 a.o, Value.int IntKind.i64 a.n] 26) := hW2
      rw [← hW2']
      clear hW2 hW2' c0 c1 c2 c3
      have HWH := Lib.hid (show whyAt xs.length l k = whyF xs.length a.k a.c a.o a.n by unfold whyAt; rw [HAK.out])
      have HMK := Lib.hid (show madeTo xs l (k + 1) = madeF (madeTo xs l k) a.k a.c a.o a.n by simp only [madeTo]; rw [HAK.out])
      have HTK := Lib.hid (show toldAt xs l k = ((madeTo xs l k).getD a.c.toNat 0, wentF (madeTo xs l k) a.k a.c a.o) by unfold toldAt; rw [HAK.out])
      have HWK := Lib.hid (show whyTo xs.length l (k + 1) = whyF xs.length a.k a.c a.o a.n by simp only [whyTo]; rw [if_pos I.ok, HWH.out])
      refine (why_any p xs.length cap a.k a.c a.o a.n _).mono ?_
      rintro e w3 ⟨rfl, hb3⟩
      have b3 := below_trans bW2 hb3
      have F0 := I.m0.later b3
      have F1 := I.m1.later b3
      have F7 := I.m7.later b3
      have F10 := E10.later hb3
      have l0 := F0.lt
      have l1 := F1.lt
      have l7 := F7.lt
      have l10 := F10.lt
      have e0 : w3.cell? ⟨w.heap.size, 0, none⟩ = some (.slice p xs.length cap) := F0.cell 0
      have e1 : w3.cell? ⟨w.heap.size + 1, 0, none⟩ = some (.slice none 0 0) := F1.cell 0
      have g1 : w3.frozen? ⟨w.heap.size + 1, 0, none⟩ = false := F1.free 0
      have e7 : w3.cell? ⟨w1.heap.size, 0, none⟩ = some (.slice (some ⟨g, 0, none⟩) xs.length xs.length) := F7.cell 0
      have e10 : w3.cell? ⟨wr.heap.size, 0, none⟩ = some (.int .i64 a.k) := F10.cell 0
      have e11 : w3.cell? ⟨wr.heap.size, 1, none⟩ = some (.int .i64 a.c) := F10.cell 1
      have e12 : w3.cell? ⟨wr.heap.size, 2, none⟩ = some (.int .i64 a.o) := F10.cell 2
      have e13 : w3.cell? ⟨wr.heap.size, 3, none⟩ = some (.int .i64 a.n) := F10.cell 3
      have O3 := I.own.later b3
      have T3 : w3.ownsRow (w1.heap.size + 1) 29 2 u8 k (resCells (toldTo xs l k)) := I.told.kept (gb_below b3 none) (by cases h : u8.ownBlock <;> simp)
      have bel3 : Below w.heap.size w w3 := I.bel.trans (b3.mono I.bel.size)
      by_cases hw : whyF xs.length a.k a.c a.o a.n = 0
      · rw [hw]
        have HW0 := Lib.hid hw
        clear hw
        have hml : (madeTo xs l k).length = xs.length := madeTo_length xs l k
        have hr1 : rightB a.k a.c a.o a.n = true := by have := HW0.out; unfold whyF at this; cases h : rightB a.k a.c a.o a.n <;> simp [h] at this; rfl
        have hr2 : a.c < xs.length := by have := HW0.out; unfold whyF at this; rw [hr1] at this; simp at this; omega
        have hT := touch_any (w.heap.size + 2) g (madeTo xs l k) a.k a.c a.o a.n w3 O3 hr1 (by rw [hml]; exact hr2) hr
        rw [hml] at hT
        have HT := Lib.hid hT
        have HML := Lib.hid hml
        clear hT hr1 hr2 hml
        go_wp2_with fail
        refine HT.out.mono ?_
        rintro e w4 ⟨rfl, O4, G4⟩
        rw [← HMK.out] at O4
        have hne7 : some w1.heap.size ≠ some g := by simp; omega
        have H0 := F0.beside G4 (by simp; omega)
        have H1 := F1.beside G4 (by simp; omega)
        have H7 := F7.beside G4 (by simp; omega)
        have T4 : w4.ownsRow (w1.heap.size + 1) 29 2 u8 k (resCells (toldTo xs l k)) := by
          refine T3.kept G4 (.inr ?_)
          intro h
          have := T3.lt g h
          omega
        have bel4 : Below w.heap.size w w4 := bel3.grown G4 (by have := bel3.size; omega) (by intro i hi; injection hi with hi; omega)
        have s4 := G4.size
        obtain ⟨had, hhad⟩ : ∃ had, (madeTo xs l k).getD a.c.toNat 0 = had := ⟨_, rfl⟩
        obtain ⟨ok, hok⟩ : ∃ ok, wentF (madeTo xs l k) a.k a.c a.o = ok := ⟨_, rfl⟩
        have HTK2 := Lib.hid (show toldAt xs l k = (had, ok) by rw [HTK.out, hhad, hok])
        rw [hhad, hok]
        clear hhad hok HT e0 e1 g1 e7 e10 e11 e12 e13
        have T5 := T4.alloc (Obj.cells #[Value.int .i64 had, .bool ok] 29)
        go_wp2_with (at_builtin; refine wpList_append_own _ rfl (.tmp 30) (.tmp 35) _ rfl (w1.heap.size + 1) 29 i0 _ 2 16 Try.underlying37 hi0 hz0 hz1 hz2 rfl (by omega) u8 k (resCells (toldTo xs l k)) rfl T5 ⟨w4.heap.size, 0, none⟩ 1 1 [.int .i64 had, .bool ok] rfl rfl (cell_two_new _ _ _ _) (by simp [Value.oneCell']) (by unfold maxLen; omega) (by omega) (by simp [go_sem]; omega) ?_; intro v6 w6 T6 G6 _)
        have G46 : w4.grownBy w6 u8.ownBlock := gb_trans (World.grownBy_alloc _ _ _) G6
        have hub : ∀ i, u8.ownBlock = some i → w1.heap.size + 1 ≤ i := fun i hi => (T4.lt i hi).1
        go_roundw
        case rel =>
          refine ⟨k + 1, by omega, by go_num, ⟨H0.beside G46 ?_, H1.beside G46 ?_, H7.beside G46 ?_, O4.beside G46 ?_, ?_, bel4.grown G46 (by have := bel4.size; omega) (fun i hi => by have := hub i hi; omega), by rw [HWK.out, HW0.out]⟩⟩
          · intro h; have := hub _ h.symm; omega
          · intro h; have := hub _ h.symm; omega
          · intro h; have := hub _ h.symm; omega
          · intro h; have := hub _ h.symm; omega
          · have e : resCells (toldTo xs l (k + 1)) = resCells (toldTo xs l k) ++ [.int .i64 had, .bool ok] := by
              unfold toldTo; rw [List.range_succ, List.map_append, List.map_singleton, resCells_snoc, HTK2.out]
            rw [e]; exact T6
        case measure => simp [intOf]; omega
      · have hw2 : (whyF xs.length a.k a.c a.o a.n == 0) = false := by simpa using hw
        have HW0 := Lib.hid hw
        clear hw
        go_wp2_with fail
        refine bodyPost_ret (v := .tuple #[.agg #[.slice p xs.length cap], .slice none 0 0, .int .i64 (whyF xs.length a.k a.c a.o a.n)]) (by simp [results, Try.results17, go_sem, e1, g1]) rfl ?_
        have hst : whyTo xs.length l l.length = whyF xs.length a.k a.c a.o a.n := by rw [← HWK.out]; exact whyTo_stays _ _ _ _ (by rw [HWK.out]; exact HW0.out) (by omega)
        have hbe : Below w.heap.size w (w3.setCell ⟨w.heap.size + 1, 0, none⟩ (.slice p xs.length cap)) := bel3.setCell (by simp) _
        refine ⟨p, cap, none, 0, 0, by rw [hst], hbe, fun _ => rfl, ?_⟩
        rw [if_neg (by rw [hst]; exact HW0.out)]
        exact ⟨hx.later hbe, rfl, rfl, rfl⟩
    · obtain rfl : k = l.length := by omega
      have e0 : wr.cell? ⟨w.heap.size + 1, 0, none⟩ = some (.slice none 0 0) := I.m1.cell 0
      have g0 : wr.frozen? ⟨w.heap.size + 1, 0, none⟩ = false := I.m1.free 0
      have e7 : wr.cell? ⟨w1.heap.size, 0, none⟩ = some (.slice (some ⟨g, 0, none⟩) xs.length xs.length) := I.m7.cell 0
      have l1 := I.m1.lt
      have l7 := I.m7.lt
      go_wp2_with fail
      refine bodyPost_ret (v := .tuple #[.agg #[.slice (some ⟨g, 0, none⟩) xs.length xs.length], u8, .int .i64 0]) (by simp [results, Try.results17, go_sem, e0, g0]) rfl ?_
      have hq : ∃ q cap2, u8 = .slice q l.length cap2 ∧ Cells wr q (resCells (toldTo xs l l.length)) ∧ (∀ b off, q = some ⟨b, off, none⟩ → w1.heap.size + 1 ≤ b) ∧ (q = none → cap2 = 0) := by
        have hT := I.told
        rcases hT.2 with ⟨hv, h0⟩ | ⟨g', cp, cur, hv, hb', hg', _⟩
        · refine ⟨none, 0, by rw [hv, h0], ⟨fun i hi => ?_⟩, (fun b off h => by cases h), fun _ => rfl⟩
          rw [hT.1, h0] at hi; omega
        · refine ⟨_, cp, hv, ?_, (fun b off h => by injection h with h; injection h with h; omega), fun h => by cases h⟩
          rw [hv] at hT
          exact Cells.of_own hT
      obtain ⟨q, cp2, rfl, hcells, hqb, hqn⟩ := hq
      refine ⟨some ⟨g, 0, none⟩, xs.length, q, l.length, cp2, by rw [I.ok], I.bel.setCell (by simp) _, hqn, ?_⟩
      rw [if_pos I.ok]
      have hfar : wr.grownBy (wr.setCell ⟨w.heap.size + 1, 0, none⟩ (.slice (some ⟨g, 0, none⟩) xs.length xs.length)) (some (w.heap.size + 1)) := grownBy_setCell' _ _ _
      refine ⟨(I.own.beside hfar (by simp; omega)).ints, rfl, ⟨fun i hi => ?_⟩⟩
      obtain ⟨b, off, h1, h2, h3⟩ := hcells.at_ i hi
      have := hqb b off h1
      exact ⟨b, off, h1, Nat.lt_of_lt_of_le h2 hfar.size, hfar.cell h3 (by simp; omega)⟩

theorem all_any (p q : Option Addr) (xs : List Int) (cap cap2 : Nat) (l : List Acc) (w : World) (hx : Ints w p xs) (hl : xs.length ≤ 1000000) (ha : Accs w q l) (hal : l.length ≤ 1000000) :
    Calls Try.prog 17 #[.agg #[.slice p xs.length cap], .slice q l.length cap2] w (AllPost w xs l) :=
  (all_any2 p q xs cap cap2 l w hx hl ha hal).mono fun _ _ ⟨a, b, c, d, e, h1, h2, _, h3⟩ => ⟨a, b, c, d, e, h1, h2, h3⟩

end Go.Proofs.Ytnjpdgahjbijcaa
