/-
  MEM: what was told, compared; accesses in two parts: pure facts.
-/
import Derived.Test.YtnjpdgahjbijcaaMemF
import Derived.Test.YtnjpdgahjbijcaaMemD
import Derived.Laws.AppendOwnNone
namespace Go.Proofs.Ytnjpdgahjbijcaa
open Go.ChangeShapes Go.WideShapes Go.ChangeAt Go.RowKit

theorem Cells.pair {w : World} {p : Option Addr} {rs : List (Int × Bool)} (h : Cells w p (resCells rs)) (i : Nat) (hi : i < rs.length) :
    ∃ b off, p = some ⟨b, off, none⟩ ∧ b < w.heap.size ∧ w.cell? ⟨b, off + i * 2, none⟩ = some (.int .i64 rs[i].1) ∧ w.cell? ⟨b, off + i * 2 + 1, none⟩ = some (.bool rs[i].2) := by
  have hl := resCells_length rs
  obtain ⟨b, off, h1, h2, h3⟩ := h.opened (by omega)
  obtain ⟨e1, e2⟩ := resCells_at rs i hi
  exact ⟨b, off, h1, h2, h3 _ _ e1, h3 _ _ e2⟩

set_option maxHeartbeats 1000000 in
/-- two rows that tell the same -/
theorem rtold_same (p q : Option Addr) (rs : List (Int × Bool)) (n c d : Nat) (w : World) (hn : rs.length = n) (hx : Cells w p (resCells rs)) (hy : Cells w q (resCells rs)) (hl : n ≤ 1000000) :
    Calls Try.prog 19 #[.slice p n c, .slice q n d] w fun e w' => e = .returned (.bool true) ∧ Below w.heap.size w w' := by
  have HN := Lib.hid hn
  have HX := Lib.hid hx
  have HY := Lib.hid hy
  clear hn hx hy
  go_enter Try.func19, Try.ntmps19
  go_wp2_with fail
  go_loopw [5] (fun i wr => ∃ k : Nat, k ≤ n ∧ i = .int .i64 k ∧ Below w.heap.size w wr) (fun i _ => n - (intOf i).toNat)
  case atStart => exact ⟨0, Nat.zero_le _, rfl, Below.refl _ _⟩
  case round =>
    obtain ⟨k, hk, rfl, hb⟩ := hrel
    by_cases hlt : k < n
    · obtain ⟨b1, o1, e1, l1, c1, c2⟩ := (HX.out.later hb).pair k (by rw [HN.out]; exact hlt)
      obtain ⟨b2, o2, e2, l2, d1, d2⟩ := (HY.out.later hb).pair k (by rw [HN.out]; exact hlt)
      subst e1 e2
      generalize rs[k]'(by rw [HN.out]; exact hlt) = r at *
      obtain ⟨x, y⟩ := r
      simp only at c1 c2 d1 d2
      go_wp2_with fail
      go_quiet (fail)
      go_wp2_with fail
      go_roundw
      case rel => exact ⟨k + 1, by omega, by go_num, below_drewN hb _⟩
      case measure => simp [intOf]; omega
    · obtain rfl : k = n := by omega
      go_wp2_with fail
      go_ret
      exact ⟨rfl, hb⟩

theorem madeTo_take (xs : List Int) (l : List Acc) (k : Nat) : ∀ j, j ≤ k → madeTo xs (l.take k) j = madeTo xs l j := by
  intro j
  induction j with
  | zero => intro _; rfl
  | succ j ih =>
    intro hj
    simp only [madeTo]
    rw [ih (by omega), List.getElem?_take, if_pos (by omega)]
theorem toldAt_take (xs : List Int) (l : List Acc) (k j : Nat) (h : j < k) : toldAt xs (l.take k) j = toldAt xs l j := by
  unfold toldAt
  rw [madeTo_take xs l k j (by omega), List.getElem?_take, if_pos h]
theorem toldTo_take (xs : List Int) (l : List Acc) (k : Nat) : toldTo xs (l.take k) k = toldTo xs l k := by
  unfold toldTo
  apply List.map_congr_left
  intro j hj
  exact toldAt_take xs l k j (List.mem_range.1 hj)
theorem whyAt_take (n : Nat) (l : List Acc) (k j : Nat) (h : j < k) : whyAt n (l.take k) j = whyAt n l j := by
  unfold whyAt
  rw [List.getElem?_take, if_pos h]
theorem whyTo_take (n : Nat) (l : List Acc) (k : Nat) : ∀ j, j ≤ k → whyTo n (l.take k) j = whyTo n l j := by
  intro j
  induction j with
  | zero => intro _; rfl
  | succ j ih =>
    intro hj
    simp only [whyTo]
    rw [ih (by omega), whyAt_take n l k j (by omega)]

theorem madeTo_drop (xs : List Int) (l : List Acc) (k : Nat) : ∀ j, madeTo (madeTo xs l k) (l.drop k) j = madeTo xs l (k + j) := by
  intro j
  induction j with
  | zero => rfl
  | succ j ih =>
    rw [← Nat.add_assoc]
    simp only [madeTo]
    rw [ih, List.getElem?_drop]
theorem toldAt_drop (xs : List Int) (l : List Acc) (k j : Nat) : toldAt (madeTo xs l k) (l.drop k) j = toldAt xs l (k + j) := by
  unfold toldAt
  rw [madeTo_drop, List.getElem?_drop]
theorem toldTo_add (xs : List Int) (l : List Acc) (k j : Nat) : toldTo xs l (k + j) = toldTo xs l k ++ toldTo (madeTo xs l k) (l.drop k) j := by
  unfold toldTo
  rw [List.range_add, List.map_append, List.map_map]
  congr 1
  apply List.map_congr_left
  intro i _
  simp only [Function.comp]
  rw [toldAt_drop]
theorem whyTo_add (n : Nat) (l : List Acc) (k : Nat) (h : whyTo n l k = 0) : ∀ j, whyTo n (l.drop k) j = whyTo n l (k + j) := by
  intro j
  induction j with
  | zero => rw [Nat.add_zero, h]; rfl
  | succ j ih =>
    rw [← Nat.add_assoc]
    simp only [whyTo]
    rw [ih]
    unfold whyAt
    rw [List.getElem?_drop]
theorem toldTo_len (xs : List Int) (l : List Acc) (k : Nat) : (toldTo xs l k).length = k := by unfold toldTo; simp
theorem resCells_append (a b : List (Int × Bool)) : resCells (a ++ b) = resCells a ++ resCells b := by unfold resCells; simp

theorem Accs.take {w : World} {p : Option Addr} {l : List Acc} (h : Accs w p l) (k : Nat) : Accs w p (l.take k) :=
  ⟨fun i hi => by
    rw [List.length_take] at hi
    obtain ⟨b, off, h1, h2, h3, h4, h5, h6⟩ := h.at_ i (by omega)
    refine ⟨b, off, h1, h2, ?_, ?_, ?_, ?_⟩ <;> simpa using ‹_›, fun a ha => h.rng a (List.mem_of_mem_take ha)⟩

theorem Accs.rest {w : World} {ad : Addr} {l : List Acc} (h : Accs w (some ad) l) (k : Nat) : Accs w (some (ad.add (k * 4))) (l.drop k) :=
  ⟨fun i hi => by
    rw [List.length_drop] at hi
    obtain ⟨b, off, h1, h2, h3, h4, h5, h6⟩ := h.at_ (k + i) (by omega)
    injection h1 with h1
    subst h1
    have e : off + k * 4 + i * 4 = off + (k + i) * 4 := by omega
    refine ⟨b, off + k * 4, by rw [addr_add], h2, ?_, ?_, ?_, ?_⟩ <;> rw [e] <;> simpa using ‹_›, fun a ha => h.rng a (List.mem_of_mem_drop ha)⟩

theorem Cells.srcs {w : World} {ad : Addr} {cs : List Value} (h : Cells w (some ad) cs) : ∀ j u, cs[j]? = some u → w.cell? (ad.add j) = some u := by
  intro j u hu
  obtain ⟨hlt, hv⟩ := List.getElem?_eq_some_iff.1 hu
  obtain ⟨b, off, h1, _, h3⟩ := h.at_ j hlt
  injection h1 with h1
  subst h1
  rw [addr_add, h3, hv]

theorem wpList_wanted {P : Program} {ops : Array Oper} {Q : Exit → Act → World → Prop} {a : Act} {w : World} {rest : List Oper} {o : Oper} (hw : Region.wanted o (yielded ops a.tmps) = true)
    (h : ∀ K : Act → World → Prop, (∀ a w, wpList P ops Q rest a w → K a w) → o.wp P a w K Q) : wpList P ops Q (o :: rest) a w :=
  wpList_step fun K hK => by rw [if_pos hw]; exact h K hK

/-- a row of results, appended to one of the call's own -/
theorem wpList_append_res {w : World} {ops : Array Oper} {rest : List Oper} {o : Oper} {a : Act} {Q : Exit → Act → World → Prop} (hgd' : Region.wanted o (yielded ops a.tmps) = true) (s x : Operand)
    (ho : o.op = .call { callee := .builtin .append, args := #[s, x], argTypes := #[37, 37] }) (base : Nat) (v : Value) (n : Nat) (cs : List Value) (hs : a.eval s = v) (hown : w.ownsRow base 29 2 v n cs)
    (p : Option Addr) (m cap : Nat) (news : List Value) (hx : a.eval x = .slice p m cap) (hb : Cells w p news) (hn : news.length = m * 2) (h1 : ∀ u ∈ news, u.oneCell' = true) (hp : p = none → cap = 0) (hl : n + m ≤ 1000000) {N : Nat} {TT : List Value} (hN : n + m = N) (hT : cs ++ news = TT) (hbase : base ≤ w.heap.size)
    (h : ∀ v' w', w'.ownsRow base 29 2 v' N TT → Below base w w' → wpList Try.prog ops Q rest (a.put o.dst v') w') : wpList Try.prog ops Q (o :: rest) a w := by
  obtain ⟨i0, hi0, hz0, hz1, hz2⟩ := info_parts res_info
  subst hN hT
  rcases p with _ | ad
  · have h0 : news = [] := by
      by_cases h0 : 0 < news.length
      · obtain ⟨_, _, h1, _⟩ := hb.at_ 0 h0; cases h1
      · exact List.length_eq_zero_iff.1 (by omega)
    subst h0
    have hm : m = 0 := by simp at hn; omega
    subst hm
    rw [hp rfl] at hx
    have hrun := run_append_owned_none (P := Try.prog) (w := w) base 37 o.type 29 i0 2 Try.underlying37 hi0 v n cs hown
    refine wpList_wanted hgd' fun K hK => ?_
    unfold Oper.wp
    simp [execOp, ho, resolve, invoke, builtin, hs, hx, hrun, Result.andThen]
    exact hK _ _ (h v w (by simpa using hown) (Below.refl _ _))
  · refine wpList_wanted hgd' fun K hK => wp_append_own w s x _ ho base 29 i0 _ 2 16 Try.underlying37 hi0 hz0 hz1 hz2 rfl (by omega) v n cs hs hown ad m cap news hx hn hb.srcs h1 (by unfold maxLen; omega) (by omega) hbase ?_
    intro v' w' T G _
    exact hK _ _ (h v' w' T ((Below.refl _ _).grown G hbase fun i hi => (hown.lt i hi).1))

theorem own_none (w : World) : (w.alloc (Obj.cells #[] 29)).ownsRow w.heap.size 29 2 (.slice (some ⟨w.heap.size, 0, none⟩) 0 0) 0 [] := by
  have := World.ownsRow_made (base := w.heap.size) (e := 29) (size := 2) w #[] 0 (Nat.le_refl _) (by unfold maxLen; omega) (by simp)
  simpa [go_sem] using this

theorem own_slice {w : World} {base : Nat} {e : TypeId} {sz n : Nat} {v : Value} {cs : List Value} (h : w.ownsRow base e sz v n cs) : ∃ q cap, v = .slice q n cap ∧ Cells w q cs := by
  rcases h.2 with ⟨hv, h0⟩ | ⟨g, cap', cur, hv, _⟩
  · subst h0
    have := h.1
    have hc : cs = [] := List.length_eq_zero_iff.1 (by simpa using this)
    subst hc
    exact ⟨none, 0, hv, ⟨fun i hi => absurd hi (by simp)⟩⟩
  · subst hv
    exact ⟨_, _, rfl, Cells.of_own h⟩
theorem resCells_one (rs : List (Int × Bool)) : ∀ u ∈ resCells rs, u.oneCell' = true := by
  intro u hu
  unfold resCells at hu
  obtain ⟨r, _, hu⟩ := List.mem_flatMap.1 hu
  simp at hu
  rcases hu with rfl | rfl <;> rfl

end Go.Proofs.Ytnjpdgahjbijcaa
