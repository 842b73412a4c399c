/-
  TRACE, of no program: events as numbers, as bytes, and back.
-/
import Derived.Test.YtbfbfpjfmdannaaTrR
import Derived.Test.YtbfbfpjfmdannaaWireV
import Derived.Test.YtbfbfpjfmdannaaWireU
namespace Go.Proofs.Ytbfbfpjfmdannaa
open Go Go.ChangeShapes Go.WideShapes Go.ChangeAt Go.RowKit

def EvV.ok01 (e : EvV) : Int := if e.ok then 1 else 0
def EvV.row (e : EvV) : List Int := [e.worker, e.seat, e.kind, e.cell, e.old, e.new, e.val, e.ok01]
/-- its numbers are numbers -/
def EvV.In (e : EvV) : Prop := In64 e.worker ∧ In64 e.seat ∧ In64 e.kind ∧ In64 e.cell ∧ In64 e.old ∧ In64 e.new ∧ In64 e.val
structure EvsR (w : World) (p : Option Addr) (l : List EvV) : Prop where
  rows : Evs w p l
  rng : ∀ e ∈ l, e.In
theorem EvsR.later {w w1 : World} {p : Option Addr} {l : List EvV} (h : EvsR w p l) (hb : Below w.heap.size w w1) : EvsR w1 p l := ⟨h.rows.later hb, h.rng⟩
def evNums (l : List EvV) : List Int := l.flatMap EvV.row
def evRows : List Int → Option (List EvV)
  | [] => some []
  | a :: b :: c :: d :: e :: f :: g :: h :: r => if h = 0 ∨ h = 1 then (evRows r).map (fun l => ⟨a, b, c, d, e, f, g, decide (h = 1)⟩ :: l) else none
  | _ => none
def trBytes (l : List EvV) : List Int := sealF (numsF (evNums l))
def trParse (b : List Int) : Option (List EvV) :=
  match openF b with
  | none => none
  | some (inn, n) => if n = b.length then
      match numsG inn with
      | none => none
      | some (nums, m) => if m = inn.length ∧ nums.length % 8 = 0 then evRows nums else none
    else none

theorem evNums_cons (e : EvV) (l : List EvV) : evNums (e :: l) = e.row ++ evNums l := by unfold evNums; rw [List.flatMap_cons]
theorem evNums_len : ∀ l : List EvV, (evNums l).length = 8 * l.length
  | [] => rfl
  | e :: l => by rw [evNums_cons, List.length_append, evNums_len l, List.length_cons]; show 8 + _ = _; omega
theorem evNums_take : ∀ (l : List EvV) (k : Nat) (h : k < l.length), evNums (l.take (k + 1)) = evNums (l.take k) ++ l[k].row
  | e :: l, 0, _ => by show evNums [e] = [] ++ e.row; rw [evNums_cons]; show e.row ++ [] = _; simp
  | e :: l, k + 1, h => by
    have hk : k < l.length := by simpa using h
    show evNums (e :: l.take (k + 1)) = evNums (e :: l.take k) ++ l[k].row
    rw [evNums_cons, evNums_cons, evNums_take l k hk, List.append_assoc]
theorem EvV.In.row {e : EvV} (h : e.In) : ∀ n ∈ e.row, In64 n := by
  obtain ⟨h0, h1, h2, h3, h4, h5, h6⟩ := h
  intro n hn
  simp only [EvV.row, List.mem_cons, List.not_mem_nil, or_false] at hn
  rcases hn with rfl | rfl | rfl | rfl | rfl | rfl | rfl | rfl <;> first | assumption | (unfold EvV.ok01 In64; split <;> omega)
theorem evNums_in {l : List EvV} (h : ∀ e ∈ l, e.In) : ∀ n ∈ evNums l, In64 n := by
  intro n hn
  obtain ⟨e, he, hn⟩ := List.mem_flatMap.1 hn
  exact (h e he).row n hn
theorem evRows_of : ∀ l : List EvV, evRows (evNums l) = some l
  | [] => rfl
  | ⟨a, b, c, d, e, f, g, h⟩ :: l => by
    rw [evNums_cons]
    show (if (EvV.ok01 ⟨a, b, c, d, e, f, g, h⟩) = 0 ∨ (EvV.ok01 ⟨a, b, c, d, e, f, g, h⟩) = 1 then (evRows (evNums l)).map _ else none) = _
    rw [evRows_of l]
    cases h <;> rfl
theorem evRows_back : ∀ (n : List Int) (l : List EvV), evRows n = some l → evNums l = n
  | [], l, h => by injection h with h; subst h; rfl
  | [_], _, h => by cases h
  | [_, _], _, h => by cases h
  | [_, _, _], _, h => by cases h
  | [_, _, _, _], _, h => by cases h
  | [_, _, _, _, _], _, h => by cases h
  | [_, _, _, _, _, _], _, h => by cases h
  | [_, _, _, _, _, _, _], _, h => by cases h
  | a :: b :: c :: d :: e :: f :: g :: h :: r, l, hl => by
    show evNums l = _
    have hl : (if h = 0 ∨ h = 1 then (evRows r).map (fun l => (⟨a, b, c, d, e, f, g, decide (h = 1)⟩ : EvV) :: l) else none) = some l := hl
    split at hl
    · rename_i h01
      obtain ⟨k, hk, rfl⟩ := Option.map_eq_some_iff.1 hl
      rw [evNums_cons, evRows_back r k hk]
      rcases h01 with rfl | rfl <;> rfl
    · cases hl

theorem openF_whole (xs r : List Int) (hl : xs.length ≤ 1000000) : openF (sealF xs ++ r) = some (xs, (sealF xs).length) := by
  have hs := sumF_in xs
  have hg := getF_put (n := sumF xs) (by unfold In64; omega) r
  have e : sealF xs ++ r = putF (zig xs.length) ++ xs ++ (putF (zig (sumF xs)) ++ r) := by unfold sealF; rw [List.append_assoc]
  rw [e, openF_some (runF_whole xs _ hl), runF_part]
  rw [show (putF (zig xs.length)).length + xs.length = (putF (zig xs.length) ++ xs).length from by rw [List.length_append], List.drop_left, hg]
  simp only [ne_eq, not_true_eq_false, or_self, if_false]
  unfold sealF
  simp only [List.length_append]
theorem openF_short (xs : List Int) (hl : xs.length ≤ 1000000) {k : Nat} (hk : k < (sealF xs).length) : openF ((sealF xs).take k) = none := by
  have hs := sumF_in xs
  unfold sealF at hk ⊢
  simp only [List.length_append] at hk
  by_cases h : k < (putF (zig xs.length)).length + xs.length
  · exact openF_none (runF_short xs _ hl h)
  · have e : (putF (zig xs.length) ++ xs ++ putF (zig (sumF xs))).take k = putF (zig xs.length) ++ xs ++ (putF (zig (sumF xs))).take (k - (putF (zig xs.length) ++ xs).length) := take_hd (by rw [List.length_append]; omega)
    have hg := getF_short (n := sumF xs) (by unfold In64; omega) [] (k := k - (putF (zig xs.length) ++ xs).length) (by rw [List.length_append]; omega)
    rw [List.append_nil] at hg
    rw [e, openF_some (runF_whole xs _ hl)]
    rw [show (putF (zig xs.length)).length + xs.length = (putF (zig xs.length) ++ xs).length from by rw [List.length_append], List.drop_left, hg]
    simp
theorem sealF_len {xs : List Int} (hl : xs.length ≤ 1000000) : 1 ≤ (sealF xs).length ∧ (sealF xs).length ≤ xs.length + 20 := by
  have hs := sumF_in xs
  have h1 := putF_len10 (zig_lt (n := xs.length) (by omega) (by omega))
  have h2 := putF_len10 (zig_lt (n := sumF xs) (by omega) (by omega))
  unfold sealF
  simp only [List.length_append]; omega

/-- what is got as a number is what it is put as -/
theorem getF_canon {bs : List Int} (hr : ∀ x ∈ bs, In8 x) (h : (getF bs).2.2 = 0) : bs.take (getF bs).2.1 = putF (zig (getF bs).1) ∧ (getF bs).2.1 = (putF (zig (getF bs).1)).length := by
  rcases getF_cases bs with ⟨h1, _⟩ | ⟨u, m, h1, h2, h3, h4, h5⟩
  · rw [h1] at h; simp at h
  · rw [h2]
    dsimp only
    rw [zig_zag]
    have h6 := (getG_take bs 0 u m hr h1).1
    refine ⟨h6, ?_⟩
    rw [← h6, List.length_take]; omega
theorem getRow_canon : ∀ (n : Nat) (bs l : List Int) (u : Nat), (∀ x ∈ bs, In8 x) → getRow n bs = some (l, u) → bs.take u = rowF l
  | 0, bs, l, u, _, h => by
    simp only [getRow, Option.some.injEq, Prod.mk.injEq] at h
    rw [← h.1, ← h.2]; rfl
  | n + 1, bs, l, u, hr, h => by
    simp only [getRow] at h
    split at h
    · cases h
    · rename_i h0
      have h0 : (getF bs).2.2 = 0 := Classical.byContradiction h0
      obtain ⟨⟨r1, r2⟩, hr1, he⟩ := Option.map_eq_some_iff.1 h
      simp only [Prod.mk.injEq] at he
      obtain ⟨rfl, rfl⟩ := he
      have h1 := getRow_canon n _ r1 r2 (fun x hx => hr x (List.mem_of_mem_drop hx)) hr1
      obtain ⟨h2, h3⟩ := getF_canon hr h0
      rw [List.take_add, h1, h2, rowF_cons]
theorem numsG_canon {bs l : List Int} {u : Nat} (hr : ∀ x ∈ bs, In8 x) (h : numsG bs = some (l, u)) : bs.take u = numsF l := by
  rw [numsG_eq] at h
  split at h
  · cases h
  · rename_i h0
    obtain ⟨⟨r1, r2⟩, hr1, he⟩ := Option.map_eq_some_iff.1 h
    simp only [Prod.mk.injEq] at he
    obtain ⟨rfl, rfl⟩ := he
    have hF : (getF bs).2.2 = 0 := by omega
    have h1 := getRow_canon _ _ r1 r2 (fun x hx => hr x (List.mem_of_mem_drop hx)) hr1
    obtain ⟨h2, _⟩ := getF_canon hr hF
    have h3 := (getRow_len _ _ _ _ hr1).1
    rw [List.take_add, h1, h2]
    unfold numsF
    rw [h3]
    have : ((getF bs).1.toNat : Int) = (getF bs).1 := by omega
    rw [this]
theorem openF_canon {bs inn : List Int} {u : Nat} (hr : ∀ x ∈ bs, In8 x) (h : openF bs = some (inn, u)) : bs.take u = sealF inn ∧ (∀ x ∈ inn, In8 x) := by
  unfold openF at h
  cases hru : runF bs with
  | none => rw [hru] at h; cases h
  | some r =>
    obtain ⟨m, k⟩ := r
    rw [hru] at h
    dsimp only at h
    split at h
    · cases h
    · rename_i h0
      injection h with h
      injection h with hi hu
      have hz : (getF (bs.drop (m + k))).2.2 = 0 := by omega
      have hs : (getF (bs.drop (m + k))).1 = sumF inn := by rw [hi] at h0; omega
      obtain ⟨h4, _⟩ := getF_canon (fun x hx => hr x (List.mem_of_mem_drop hx)) hz
      unfold runF at hru
      split at hru
      · cases hru
      · rename_i h1
        injection hru with hru
        injection hru with e1 e2
        have hF : (getF bs).2.2 = 0 := by omega
        obtain ⟨h2, _⟩ := getF_canon hr hF
        have hil : inn.length = k := by rw [← hi, List.length_take, List.length_drop]; omega
        refine ⟨?_, fun x hx => hr x (by rw [← hi] at hx; exact List.mem_of_mem_drop (List.mem_of_mem_take hx))⟩
        rw [← hu, List.take_add, h4, List.take_add, hi, hs]
        rw [e1] at h2
        rw [h2]
        unfold sealF
        rw [hil]
        have : ((k : Nat) : Int) = (getF bs).1 := by omega
        rw [this]

/-- what is written is read -/
theorem trParse_bytes {l : List EvV} (h : ∀ n ∈ evNums l, In64 n) (hl : l.length ≤ 10000) : trParse (trBytes l) = some l := by
  have hn := evNums_len l
  have hnl := rowF_len (evNums l) h
  have hp := putF_len10 (zig_lt (n := (evNums l).length) (by omega) (by omega))
  have hN : (numsF (evNums l)).length ≤ 1000000 := by unfold numsF; rw [List.length_append]; omega
  have h1 := openF_whole (numsF (evNums l)) [] hN
  rw [List.append_nil] at h1
  have h2 := numsG_whole (evNums l) [] h (by omega)
  rw [List.append_nil] at h2
  unfold trParse trBytes
  rw [h1]
  dsimp only
  rw [if_pos rfl, h2]
  dsimp only
  rw [if_pos ⟨rfl, by omega⟩, evRows_of]
/-- and what is read was written so -/
theorem trBytes_parse {b : List Int} {l : List EvV} (hr : ∀ x ∈ b, In8 x) (h : trParse b = some l) : trBytes l = b := by
  unfold trParse at h
  cases ho : openF b with
  | none => rw [ho] at h; cases h
  | some r =>
    obtain ⟨inn, n⟩ := r
    rw [ho] at h
    dsimp only at h
    split at h
    · rename_i hn
      cases hg : numsG inn with
      | none => rw [hg] at h; cases h
      | some q =>
        obtain ⟨nums, m⟩ := q
        rw [hg] at h
        dsimp only at h
        split at h
        · rename_i hm
          obtain ⟨h1, h2⟩ := openF_canon hr ho
          have h3 := numsG_canon h2 hg
          rw [hn, List.take_length] at h1
          rw [hm.1, List.take_length] at h3
          unfold trBytes
          rw [evRows_back _ _ h, ← h3, ← h1]
        · cases h
    · cases h
theorem trBytes_inj {l m : List EvV} (hl : ∀ n ∈ evNums l, In64 n) (hm : ∀ n ∈ evNums m, In64 n) (h1 : l.length ≤ 10000) (h2 : m.length ≤ 10000) (h : trBytes l = trBytes m) : l = m := by
  have := trParse_bytes hl h1
  rw [h, trParse_bytes hm h2] at this
  injection this with this
  exact this.symm
theorem trParse_long {l : List EvV} (hl : ∀ n ∈ evNums l, In64 n) (h1 : l.length ≤ 10000) (x : Int) : trParse (trBytes l ++ [x]) = none := by
  have hn := evNums_len l
  have hnl := rowF_len (evNums l) hl
  have hp := putF_len10 (zig_lt (n := (evNums l).length) (by omega) (by omega))
  have hN : (numsF (evNums l)).length ≤ 1000000 := by unfold numsF; rw [List.length_append]; omega
  have h1 := openF_whole (numsF (evNums l)) [x] hN
  unfold trParse
  show (match openF (sealF _ ++ [x]) with | none => _ | some (inn, n) => _) = _
  rw [h1]
  dsimp only
  rw [if_neg]
  unfold trBytes
  rw [List.length_append]; simp
theorem trParse_short {l : List EvV} (hl : ∀ n ∈ evNums l, In64 n) (h1 : l.length ≤ 10000) {k : Nat} (hk : k < (trBytes l).length) : trParse ((trBytes l).take k) = none := by
  have hn := evNums_len l
  have hnl := rowF_len (evNums l) hl
  have hp := putF_len10 (zig_lt (n := (evNums l).length) (by omega) (by omega))
  have hN : (numsF (evNums l)).length ≤ 1000000 := by unfold numsF; rw [List.length_append]; omega
  have h1 := openF_short (numsF (evNums l)) hN hk
  unfold trParse trBytes
  rw [h1]
theorem numsF_len {l : List EvV} (hl : ∀ n ∈ evNums l, In64 n) (h1 : l.length ≤ 100) : (numsF (evNums l)).length ≤ 8100 := by
  have hn := evNums_len l
  have hnl := rowF_len (evNums l) hl
  have hp := putF_len10 (zig_lt (n := (evNums l).length) (by omega) (by omega))
  unfold numsF; rw [List.length_append]; omega
theorem trBytes_len {l : List EvV} (hl : ∀ n ∈ evNums l, In64 n) (h1 : l.length ≤ 100) : 1 ≤ (trBytes l).length ∧ (trBytes l).length ≤ 9000 := by
  have hn := evNums_len l
  have hnl := rowF_len (evNums l) hl
  have hp := putF_len10 (zig_lt (n := (evNums l).length) (by omega) (by omega))
  have hN : (numsF (evNums l)).length ≤ 8100 := by unfold numsF; rw [List.length_append]; omega
  have := sealF_len (xs := numsF (evNums l)) (by omega)
  unfold trBytes
  omega
end Go.Proofs.Ytbfbfpjfmdannaa
