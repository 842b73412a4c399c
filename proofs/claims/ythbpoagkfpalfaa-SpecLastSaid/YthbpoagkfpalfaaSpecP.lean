/-
  SPEC: maps as rows of pairs, plainly.
-/
import Derived.Test.YthbpoagkfpalfaaSpecG
namespace Go.Proofs.Ythbpoagkfpalfaa
open Go.ChangeShapes Go.WideShapes Go.ChangeAt Go.RowKit

def mget : List (Int × Int) → Int → Option Int
  | [], _ => none
  | (c, y) :: l, k => if c < k then mget l k else if c = k then some y else none
def mins : List (Int × Int) → Int → Int → List (Int × Int)
  | [], k, v => [(k, v)]
  | (c, y) :: l, k, v => if c < k then (c, y) :: mins l k v else (k, v) :: (c, y) :: l
def mdel : List (Int × Int) → Int → List (Int × Int)
  | [], _ => []
  | (c, y) :: l, k => if c < k then (c, y) :: mdel l k else if c = k then l else (c, y) :: l
def fk (L : List (Int × Int)) : List Int := L.map (·.1)
def fv (L : List (Int × Int)) : List Int := L.map (·.2)
def Srt (L : List (Int × Int)) : Prop := L.Pairwise fun a b => a.1 < b.1

theorem lb_cons (c : Int) (l : List Int) (k : Int) : lbP (c :: l) k = if c < k then lbP l k + 1 else 0 := by
  unfold lbP
  rw [List.takeWhile_cons]
  by_cases h : c < k <;> simp [h]
theorem isP_cons (c : Int) (l : List Int) (k : Int) : isP (c :: l) k = if c < k then isP l k else c == k := by
  unfold isP
  rw [lb_cons]
  by_cases h : c < k <;> simp [h]

theorem get_is : ∀ (L : List (Int × Int)) (k : Int), isP (fk L) k = (mget L k).isSome
  | [], k => rfl
  | (c, y) :: l, k => by
    show isP (c :: fk l) k = _
    rw [isP_cons, mget, get_is l k]
    by_cases h : c < k
    · simp [h]
    · by_cases h2 : c = k <;> simp [h, h2]
theorem get_val : ∀ (L : List (Int × Int)) (k : Int), isP (fk L) k = true → (fv L).getD (lbP (fk L) k) 0 = (mget L k).getD 0
  | [], k, h => by cases h
  | (c, y) :: l, k, h => by
    have h1 : isP (c :: fk l) k = true := h
    rw [isP_cons] at h1
    show (y :: fv l).getD (lbP (c :: fk l) k) 0 = _
    rw [lb_cons, mget]
    by_cases h2 : c < k
    · rw [if_pos h2] at h1 ⊢
      rw [if_pos h2, ← get_val l k h1]
      simp
    · rw [if_neg h2] at h1 ⊢
      have h3 : c = k := by simpa using h1
      rw [if_neg h2, if_pos h3]
      simp
theorem ins_keys (v : Int) : ∀ (L : List (Int × Int)) (k : Int), (fk L).take (lbP (fk L) k) ++ k :: (fk L).drop (lbP (fk L) k) = fk (mins L k v)
  | [], k => rfl
  | (c, y) :: l, k => by
    show (c :: fk l).take (lbP (c :: fk l) k) ++ k :: (c :: fk l).drop (lbP (c :: fk l) k) = _
    rw [lb_cons, mins]
    by_cases h : c < k
    · rw [if_pos h, if_pos h]
      show c :: ((fk l).take (lbP (fk l) k) ++ k :: (fk l).drop (lbP (fk l) k)) = c :: fk (mins l k v)
      rw [ins_keys v l k]
    · rw [if_neg h, if_neg h]; rfl
theorem ins_vals (v : Int) : ∀ (L : List (Int × Int)) (k : Int), (fv L).take (lbP (fk L) k) ++ v :: (fv L).drop (lbP (fk L) k) = fv (mins L k v)
  | [], k => rfl
  | (c, y) :: l, k => by
    show (y :: fv l).take (lbP (c :: fk l) k) ++ v :: (y :: fv l).drop (lbP (c :: fk l) k) = _
    rw [lb_cons, mins]
    by_cases h : c < k
    · rw [if_pos h, if_pos h]
      show y :: ((fv l).take (lbP (fk l) k) ++ v :: (fv l).drop (lbP (fk l) k)) = y :: fv (mins l k v)
      rw [ins_vals v l k]
    · rw [if_neg h, if_neg h]; rfl
theorem del_keys : ∀ (L : List (Int × Int)) (k : Int), isP (fk L) k = true → (fk L).take (lbP (fk L) k) ++ (fk L).drop (lbP (fk L) k + 1) = fk (mdel L k)
  | [], k, h => by cases h
  | (c, y) :: l, k, h => by
    have h1 : isP (c :: fk l) k = true := h
    rw [isP_cons] at h1
    show (c :: fk l).take (lbP (c :: fk l) k) ++ (c :: fk l).drop (lbP (c :: fk l) k + 1) = _
    rw [lb_cons, mdel]
    by_cases h2 : c < k
    · rw [if_pos h2] at h1
      rw [if_pos h2, if_pos h2]
      show c :: ((fk l).take (lbP (fk l) k) ++ (fk l).drop (lbP (fk l) k + 1)) = c :: fk (mdel l k)
      rw [del_keys l k h1]
    · rw [if_neg h2] at h1
      have h3 : c = k := by simpa using h1
      rw [if_neg h2, if_neg h2, if_pos h3]; rfl
theorem del_vals : ∀ (L : List (Int × Int)) (k : Int), isP (fk L) k = true → (fv L).take (lbP (fk L) k) ++ (fv L).drop (lbP (fk L) k + 1) = fv (mdel L k)
  | [], k, h => by cases h
  | (c, y) :: l, k, h => by
    have h1 : isP (c :: fk l) k = true := h
    rw [isP_cons] at h1
    show (y :: fv l).take (lbP (c :: fk l) k) ++ (y :: fv l).drop (lbP (c :: fk l) k + 1) = _
    rw [lb_cons, mdel]
    by_cases h2 : c < k
    · rw [if_pos h2] at h1
      rw [if_pos h2, if_pos h2]
      show y :: ((fv l).take (lbP (fk l) k) ++ (fv l).drop (lbP (fk l) k + 1)) = y :: fv (mdel l k)
      rw [del_vals l k h1]
    · rw [if_neg h2] at h1
      have h3 : c = k := by simpa using h1
      rw [if_neg h2, if_neg h2, if_pos h3]; rfl

theorem get_low {L : List (Int × Int)} {k : Int} (h : ∀ p ∈ L, k < p.1) : mget L k = none := by
  cases L with
  | nil => rfl
  | cons p l =>
    obtain ⟨c, y⟩ := p
    have := h (c, y) List.mem_cons_self
    rw [mget, if_neg (by dsimp only at this; omega), if_neg (by dsimp only at this; omega)]
theorem Srt.cons {c y : Int} {l : List (Int × Int)} : Srt ((c, y) :: l) ↔ (∀ p ∈ l, c < p.1) ∧ Srt l := List.pairwise_cons
theorem ins_mem {k v : Int} : ∀ {L : List (Int × Int)} {p : Int × Int}, p ∈ mins L k v → p = (k, v) ∨ p ∈ L
  | [], p, h => by simpa [mins] using h
  | (c, y) :: l, p, h => by
    rw [mins] at h
    split at h
    · rcases List.mem_cons.1 h with h | h
      · exact .inr (h ▸ List.mem_cons_self)
      · rcases ins_mem h with h | h
        · exact .inl h
        · exact .inr (List.mem_cons_of_mem _ h)
    · rcases List.mem_cons.1 h with h | h
      · exact .inl h
      · exact .inr h
theorem del_mem {k : Int} : ∀ {L : List (Int × Int)} {p : Int × Int}, p ∈ mdel L k → p ∈ L
  | [], p, h => h
  | (c, y) :: l, p, h => by
    rw [mdel] at h
    split at h
    · rcases List.mem_cons.1 h with h | h
      · exact h ▸ List.mem_cons_self
      · exact List.mem_cons_of_mem _ (del_mem h)
    · split at h
      · exact List.mem_cons_of_mem _ h
      · exact h
theorem ins_srt (k v : Int) : ∀ (L : List (Int × Int)), Srt L → mget L k = none → Srt (mins L k v)
  | [], _, _ => List.pairwise_singleton _ _
  | (c, y) :: l, h, hg => by
    obtain ⟨h1, h2⟩ := Srt.cons.1 h
    rw [mget] at hg
    rw [mins]
    by_cases hc : c < k
    · rw [if_pos hc] at hg ⊢
      refine Srt.cons.2 ⟨fun p hp => ?_, ins_srt k v l h2 hg⟩
      rcases ins_mem hp with rfl | hp
      · exact hc
      · exact h1 p hp
    · rw [if_neg hc] at hg ⊢
      have hne : c ≠ k := by intro e; rw [if_pos e] at hg; cases hg
      refine Srt.cons.2 ⟨fun p hp => ?_, h⟩
      rcases List.mem_cons.1 hp with rfl | hp
      · dsimp only; omega
      · have := h1 p hp; omega
theorem del_srt (k : Int) : ∀ (L : List (Int × Int)), Srt L → Srt (mdel L k)
  | [], h => h
  | (c, y) :: l, h => by
    obtain ⟨h1, h2⟩ := Srt.cons.1 h
    rw [mdel]
    split
    · exact Srt.cons.2 ⟨fun p hp => h1 p (del_mem hp), del_srt k l h2⟩
    · split
      · exact h2
      · exact h
theorem get_ins (k v j : Int) : ∀ (L : List (Int × Int)), Srt L → mget L k = none → mget (mins L k v) j = if j = k then some v else mget L j
  | [], _, _ => by
    show mget [(k, v)] j = if j = k then some v else mget [] j
    by_cases e : j = k
    · simp [mget, e]
    · rw [if_neg e]
      simp [mget]; omega
  | (c, y) :: l, h, hg => by
    obtain ⟨h1, h2⟩ := Srt.cons.1 h
    rw [mget] at hg
    rw [mins]
    by_cases hc : c < k
    · rw [if_pos hc] at hg ⊢
      rw [mget, get_ins k v j l h2 hg, mget]
      by_cases e : j = k
      · rw [if_pos e, if_pos (by omega)]; simp [e]
      · rw [if_neg e, if_neg e]
    · rw [if_neg hc] at hg ⊢
      have hne : c ≠ k := by intro e; rw [if_pos e] at hg; cases hg
      rw [mget]
      by_cases e : j = k
      · rw [if_pos e, if_neg (by omega), if_pos e.symm]
      · rw [if_neg e]
        by_cases h3 : k < j
        · rw [if_pos h3]
        · rw [if_neg h3, if_neg (by omega), mget, if_neg (by omega), if_neg (by omega)]
theorem get_del (k j : Int) : ∀ (L : List (Int × Int)), Srt L → mget (mdel L k) j = if j = k then none else mget L j
  | [], _ => by simp [mdel, mget]
  | (c, y) :: l, h => by
    obtain ⟨h1, h2⟩ := Srt.cons.1 h
    rw [mdel]
    by_cases hc : c < k
    · rw [if_pos hc, mget, get_del k j l h2, mget]
      by_cases e : j = k
      · rw [if_pos e, if_pos (by omega)]; simp [e]
      · rw [if_neg e, if_neg e]
    · rw [if_neg hc]
      by_cases h4 : c = k
      · rw [if_pos h4, mget]
        by_cases e : j = k
        · rw [if_pos e]
          exact get_low fun p hp => by have := h1 p hp; omega
        · rw [if_neg e]
          by_cases h5 : c < j
          · rw [if_pos h5]
          · rw [if_neg h5, if_neg (by omega)]
            exact get_low fun p hp => by have := h1 p hp; omega
      · rw [if_neg h4]
        by_cases e : j = k
        · rw [if_pos e, mget, if_neg (by omega), if_neg (by omega)]
        · rw [if_neg e]
theorem get_ext : ∀ (L M : List (Int × Int)), Srt L → Srt M → (∀ j, mget L j = mget M j) → L = M
  | [], [], _, _, _ => rfl
  | [], (c, y) :: m, _, _, h => by have := h c; simp [mget] at this
  | (c, y) :: l, [], _, _, h => by have := h c; simp [mget] at this
  | (c, y) :: l, (d, z) :: m, hl, hm, h => by
    obtain ⟨l1, l2⟩ := Srt.cons.1 hl
    obtain ⟨m1, m2⟩ := Srt.cons.1 hm
    have hc := h c
    have hd := h d
    simp only [mget, Int.lt_irrefl, if_false, if_true] at hc hd
    have hcd : c = d := by
      rcases Int.lt_trichotomy c d with e | e | e
      · rw [if_neg (by omega), if_neg (by omega)] at hc; cases hc
      · exact e
      · rw [if_neg (by omega), if_neg (by omega)] at hd; cases hd
    subst hcd
    simp only [Int.lt_irrefl, if_false, if_true, Option.some.injEq] at hc
    subst hc
    congr 1
    refine get_ext l m l2 m2 fun j => ?_
    by_cases e : c < j
    · have := h j
      simpa [mget, e] using this
    · rw [get_low fun p hp => by have := l1 p hp; omega, get_low fun p hp => by have := m1 p hp; omega]

/-- a map that may be, as pairs -/
theorem map_pairs {c : ContV} (h : rightC c = true) (hk : c.kind = 1) : ∃ L, Srt L ∧ c = ⟨1, fk L, fv L⟩ := by
  obtain ⟨h1, h2⟩ := right_map h hk
  obtain ⟨ck, ks, vs⟩ := c
  dsimp only at hk h1 h2
  subst hk
  refine ⟨ks.zip vs, ?_, ?_⟩
  · have hm : (ks.zip vs).map (·.1) = ks := List.map_fst_zip (by omega)
    unfold Srt
    rw [← hm, List.pairwise_map] at h1
    exact h1
  · unfold fk fv
    rw [List.map_fst_zip (by omega), List.map_snd_zip (by omega)]
theorem pairs_right {L : List (Int × Int)} (h : Srt L) : rightC ⟨1, fk L, fv L⟩ = true := by
  unfold rightC
  rw [if_pos rfl, Bool.and_eq_true]
  refine ⟨decide_eq_true ?_, decide_eq_true ?_⟩
  · show (L.map (·.1)).Pairwise (· < ·)
    rw [List.pairwise_map]; exact h
  · simp [fk, fv]

/-- what operations of maps make of pairs -/
def mdo (L : List (Int × Int)) (o : OpV) : List (Int × Int) × Int × Bool :=
  if o.kind = 1 then (match mget L o.a with | some v => (L, v, true) | none => (L, 0, false))
  else if o.kind = 2 then (match mget L o.a with | some _ => (L, 0, false) | none => (mins L o.a o.b, 0, true))
  else (match mget L o.a with | some _ => (mdel L o.a, 0, true) | none => (L, 0, false))
theorem mdo_srt (L : List (Int × Int)) (o : OpV) (h : Srt L) : Srt (mdo L o).1 := by
  unfold mdo
  split
  · split <;> exact h
  · split
    · split
      · exact h
      · rename_i hn; exact ins_srt _ _ _ h hn
    · split
      · exact del_srt _ _ h
      · exact h
theorem kind_one {k : Int} (h : kindOf k = 1) : k = 1 ∨ k = 2 ∨ k = 3 := by
  unfold kindOf at h
  split at h
  · assumption
  · split at h
    · omega
    · split at h <;> omega
theorem do_pairs (L : List (Int × Int)) (h : Srt L) (o : OpV) (ho : kindOf o.kind = 1) : doC ⟨1, fk L, fv L⟩ o = (⟨1, fk (mdo L o).1, fv (mdo L o).1⟩, (mdo L o).2.1, (mdo L o).2.2) := by
  have hk := kind_one ho
  have hi := get_is L o.a
  unfold doC
  rw [if_neg (by rintro (h1 | h1); exact h1 ho; rw [pairs_right h] at h1; cases h1)]
  unfold mdo
  rcases hk with hk | hk | hk
  · rw [if_pos hk, if_pos hk]
    unfold getC
    dsimp only
    cases hg : mget L o.a with
    | none => rw [hg] at hi; have hi : isP (fk L) o.a = false := hi; rw [if_neg (by rw [hi]; exact Bool.false_ne_true)]
    | some v => rw [hg] at hi; have hi : isP (fk L) o.a = true := hi; rw [if_pos hi, get_val L o.a hi, hg]; rfl
  · rw [if_neg (by omega), if_pos hk, if_neg (by omega), if_pos hk]
    unfold putC
    dsimp only
    cases hg : mget L o.a with
    | none => rw [hg] at hi; have hi : isP (fk L) o.a = false := hi; rw [if_neg (by rw [hi]; exact Bool.false_ne_true), ins_keys o.b, ins_vals]
    | some v => rw [hg] at hi; have hi : isP (fk L) o.a = true := hi; rw [if_pos hi]
  · rw [if_neg (by omega), if_neg (by omega), if_pos hk, if_neg (by omega), if_neg (by omega)]
    unfold delC
    dsimp only
    cases hg : mget L o.a with
    | none => rw [hg] at hi; have hi : isP (fk L) o.a = false := hi; rw [if_neg (by rw [hi]; exact Bool.false_ne_true)]
    | some v => rw [hg] at hi; have hi : isP (fk L) o.a = true := hi; rw [if_pos hi, del_keys L o.a hi, del_vals L o.a hi]

/-- what is asked of another key is as it was -/
theorem mdo_other (L : List (Int × Int)) (h : Srt L) (o : OpV) (j : Int) (hj : j ≠ o.a) : mget (mdo L o).1 j = mget L j := by
  unfold mdo
  split
  · split <;> rfl
  · split
    · split
      · rfl
      · rename_i hn; rw [get_ins _ _ _ _ h hn, if_neg hj]
    · split
      · rw [get_del _ _ _ h, if_neg hj]
      · rfl
theorem mdo_cong (L M : List (Int × Int)) (hl : Srt L) (hm : Srt M) (o : OpV) (hg : mget L o.a = mget M o.a) : (mdo L o).2 = (mdo M o).2 ∧ mget (mdo L o).1 o.a = mget (mdo M o).1 o.a := by
  unfold mdo
  rw [← hg]
  split
  · split <;> exact ⟨rfl, hg⟩
  · split
    · cases hv : mget L o.a with
      | some v => exact ⟨rfl, hg⟩
      | none =>
        refine ⟨rfl, ?_⟩
        dsimp only
        rw [get_ins _ _ _ _ hl hv, get_ins _ _ _ _ hm (hg ▸ hv), if_pos rfl, if_pos rfl]
    · cases hv : mget L o.a with
      | none => exact ⟨rfl, hg⟩
      | some v =>
        refine ⟨rfl, ?_⟩
        dsimp only
        rw [get_del _ _ _ hl, get_del _ _ _ hm, if_pos rfl, if_pos rfl]
theorem mdo_commute (L : List (Int × Int)) (h : Srt L) (a b : OpV) (hab : a.a ≠ b.a ∨ (a.kind = 1 ∧ b.kind = 1)) :
    (mdo (mdo L a).1 b).1 = (mdo (mdo L b).1 a).1 ∧ (mdo L a).2 = (mdo (mdo L b).1 a).2 ∧ (mdo (mdo L a).1 b).2 = (mdo L b).2 := by
  have ha := mdo_srt L a h
  have hb := mdo_srt L b h
  rcases hab with hab | ⟨k1, k2⟩
  · have e1 := mdo_other L h a b.a (Ne.symm hab)
    have e2 := mdo_other L h b a.a hab
    refine ⟨get_ext _ _ (mdo_srt _ _ ha) (mdo_srt _ _ hb) fun j => ?_, (mdo_cong L _ h hb a e2.symm).1, (mdo_cong _ L ha h b e1).1⟩
    by_cases ja : j = a.a
    · subst ja
      rw [mdo_other _ ha b a.a hab]
      exact (mdo_cong L _ h hb a e2.symm).2
    · by_cases jb : j = b.a
      · subst jb
        rw [mdo_other _ hb a b.a ja]
        exact (mdo_cong _ L ha h b e1).2
      · rw [mdo_other _ ha b j jb, mdo_other _ h a j ja, mdo_other _ hb a j ja, mdo_other _ h b j jb]
  · have e : ∀ (M : List (Int × Int)) (o : OpV), o.kind = 1 → (mdo M o).1 = M := fun M o ho => by
      unfold mdo; rw [if_pos ho]; split <;> rfl
    rw [e L a k1, e L b k2, e L a k1]
    exact ⟨rfl, rfl, rfl⟩

theorem doC_no {c : ContV} {o : OpV} (h : kindOf o.kind ≠ c.kind) : doC c o = (c, 0, false) := by unfold doC; rw [if_pos (.inl h)]
theorem doC_kind (c : ContV) (o : OpV) : (doC c o).1.kind = c.kind := by
  unfold doC getC putC delC pushC sendC firstC
  repeat' split
  all_goals rfl
theorem right_rest {c : ContV} (h : rightC c = true) (hk : c.kind ≠ 1) : c.keys = [] ∧ (c.kind = 2 ∨ c.kind = 3) := by
  unfold rightC at h
  rw [if_neg hk] at h
  split at h
  · rename_i h2
    exact ⟨List.length_eq_zero_iff.1 (of_decide_eq_true h), h2⟩
  · cases h
theorem rest_right {k : Int} (hk : k = 2 ∨ k = 3) (vs : List Int) : rightC ⟨k, [], vs⟩ = true := by
  unfold rightC
  rw [if_neg (by dsimp only; omega), if_pos hk]; rfl
theorem doC_right {c : ContV} (h : rightC c = true) (o : OpV) : rightC (doC c o).1 = true := by
  by_cases hn : kindOf o.kind = c.kind
  · by_cases hk : c.kind = 1
    · obtain ⟨L, hs, rfl⟩ := map_pairs h hk
      rw [do_pairs L hs o hn]
      exact pairs_right (mdo_srt L o hs)
    · obtain ⟨h1, h2⟩ := right_rest h hk
      obtain ⟨ck, ks, vs⟩ := c
      dsimp only at h1 h2 hk hn
      subst h1
      have ho : o.kind ≠ 1 ∧ o.kind ≠ 2 ∧ o.kind ≠ 3 := by
        refine ⟨?_, ?_, ?_⟩ <;> (intro e; rw [e] at hn; exact hk hn.symm)
      unfold doC
      split
      · exact h
      rw [if_neg ho.1, if_neg ho.2.1, if_neg ho.2.2]
      split
      · exact rest_right h2 _
      · split
        · exact rest_right h2 _
        · unfold firstC; split
          · exact h
          · exact rest_right h2 _
  · rw [doC_no hn]; exact h
theorem doC_false {c : ContV} {o : OpV} (h : (doC c o).2.2 = false) : doC c o = (c, 0, false) := by
  revert h
  unfold doC getC putC delC pushC sendC firstC
  repeat' split
  all_goals first | (intro _; rfl) | (intro h; cases h)
theorem doC_size (c : ContV) (o : OpV) : (doC c o).1.vals.length ≤ c.vals.length + 1 ∧ c.vals.length ≤ (doC c o).1.vals.length + 1 := by
  refine ⟨(doC_len c o).2, ?_⟩
  unfold doC getC putC delC pushC sendC firstC
  repeat' split
  all_goals first
    | exact Nat.le_succ _
    | (dsimp only; rw [take_insert]; omega)
    | (dsimp only; rw [List.length_append, List.length_take, List.length_drop]; omega)
    | (simp; omega)
    | simp
theorem commutes {c : ContV} (h : rightC c = true) (a b : OpV) (hc : comm a b = true) :
    (doC (doC c a).1 b).1 = (doC (doC c b).1 a).1 ∧ (doC c a).2 = (doC (doC c b).1 a).2 ∧ (doC (doC c a).1 b).2 = (doC c b).2 := by
  by_cases ha : kindOf a.kind = c.kind
  · by_cases hb : kindOf b.kind = c.kind
    · unfold comm at hc
      rw [ha, hb] at hc
      have hc1 : c.kind = 1 ∧ (a.a ≠ b.a ∨ (a.kind = 1 ∧ b.kind = 1)) := by simpa using hc
      obtain ⟨L, hs, rfl⟩ := map_pairs h hc1.1
      have h1 := mdo_commute L hs a b hc1.2
      rw [do_pairs L hs a ha, do_pairs L hs b hb]
      dsimp only
      rw [do_pairs _ (mdo_srt L a hs) b hb, do_pairs _ (mdo_srt L b hs) a ha]
      dsimp only
      rw [h1.1]
      exact ⟨rfl, by rw [h1.2.1], by rw [h1.2.2]⟩
    · rw [doC_no hb, doC_no (c := (doC c a).1) (o := b) (by rw [doC_kind]; exact hb)]
      exact ⟨rfl, rfl, rfl⟩
  · rw [doC_no ha, doC_no (c := (doC c b).1) (o := a) (by rw [doC_kind]; exact ha)]
    exact ⟨rfl, rfl, rfl⟩
theorem comm_swap (a b : OpV) : comm a b = comm b a := by
  unfold comm
  by_cases h : kindOf a.kind = kindOf b.kind
  · rw [h]
    simp only [bne_self_eq_false, Bool.false_or]
    rw [show (a.a != b.a) = (b.a != a.a) by rw [Bool.eq_iff_iff]; simp; exact ⟨fun h e => h e.symm, fun h e => h e.symm⟩, Bool.and_comm (a.kind == 1)]
  · rw [show (kindOf a.kind != kindOf b.kind) = true by simp; exact h, show (kindOf b.kind != kindOf a.kind) = true by simp; exact fun e => h e.symm]
    rfl
end Go.Proofs.Ythbpoagkfpalfaa
