/-
  LEX: the walk of LexBoth.
-/
import Derived.Test.YtplndghcileghaaDoorRows
import Derived.ProofKit
import Derived.Test.YtplndghcileghaaDoorLexX
import Derived.Test.YtplndghcileghaaDoorWLexReads
import Derived.Laws.AppendOwnNone
namespace Go.Proofs.YtplndghcileghaaDoor
open Go.ChangeShapes Go.WideShapes Go.ChangeAt Go.RowKit

theorem both_words (a b : ByteArray) (x : UInt8) (hx : blankU x = true) :
    wordsP 0 ((a ++ ⟨#[x]⟩) ++ b).data.toList = match wordsP 0 a.data.toList with | none => none | some ta => (wordsP 0 b.data.toList).map (fun tb => ta ++ tb.map (shiftT (a.size + 1))) := by
  have e : ((a ++ ⟨#[x]⟩) ++ b).data.toList = a.data.toList ++ x :: b.data.toList := by
    rw [ByteArray.data_append, ByteArray.data_append]; simp
  rw [e, words_both hx]
  cases wordsP 0 a.data.toList with
  | none => rfl
  | some ta =>
    show (wordsP (0 + a.data.toList.length + 1) b.data.toList).map (ta ++ ·) = _
    rw [Nat.add_assoc, words_shift, Option.map_map, ← size_len]
    rfl

theorem placed_le : ∀ (ts : List Tok) (p : Nat) (l : List UInt8), Placed p l ts → ∀ t ∈ ts, t.p ≤ p + l.length
  | [], _, _, _, t, ht => by cases ht
  | u :: ts, p, l, h, t, ht => by
    obtain ⟨b, l', h1, h2, h3, h4, h5⟩ := h
    have hl : l.length = b.length + (u.t.length + l'.length) := by rw [h2]; simp
    rcases List.mem_cons.1 ht with rfl | ht
    · omega
    · have := placed_le ts _ l' h5 t ht
      omega
theorem size_three (a b : ByteArray) (x : UInt8) : ((a ++ ⟨#[x]⟩) ++ b).size = a.size + 1 + b.size := by
  rw [ByteArray.size_append, ByteArray.size_append]; rfl

def betweenCells : Array Value := #[.string ⟨#[32]⟩, .string ⟨#[9]⟩, .string ⟨#[10]⟩]

/-- the three ways of 'which' -/
theorem which_ways (c : Int) (h : 0 ≤ c ∧ c ≤ 255) : c % 3 = 0 ∨ c % 3 = 1 ∨ c % 3 = 2 := by omega

theorem words_none {s : ByteArray} {w : World} (h : Calls Tryd.prog 10 #[.string s] w (WordsPost w none)) :
    Calls Tryd.prog 10 #[.string s] w fun e w' => ∃ p n cap, e = .returned (.tuple #[.slice p n cap, .int .i64 3]) ∧ Below w.heap.size w w' :=
  h.mono fun _ _ ⟨he, hb⟩ => ⟨none, 0, 0, he, hb⟩
theorem words_some {s : ByteArray} {w : World} {ts : List Tok} (h : Calls Tryd.prog 10 #[.string s] w (WordsPost w (some ts))) :
    Calls Tryd.prog 10 #[.string s] w fun e w' => ∃ p n cap, e = .returned (.tuple #[.slice p n cap, .int .i64 0]) ∧ Below w.heap.size w w' :=
  h.mono fun _ _ ⟨p, cap, he, _, hb, _⟩ => ⟨p, ts.length, cap, he, hb⟩

set_option maxRecDepth 100000 in
set_option maxHeartbeats 2000000 in
theorem bothNot (a b : ByteArray) (c : Int) (W : World) (hc : 0 ≤ c ∧ c ≤ 255) (ha : a.size ≤ 600) (hb : b.size ≤ 600) (i : Nat) (x : UInt8) (hi : c % 3 = (i : Int)) (hcell : betweenCells[i]? = some (.string ⟨#[x]⟩))
    (e1 e2 : Int) (hways : (e1 = 3 ∧ e2 = 0) ∨ (e1 = 3 ∧ e2 = 3) ∨ (e1 = 0 ∧ e2 = 3))
    (h1 : ∀ w, Calls Tryd.prog 10 #[.string a] w fun e w' => ∃ p n cap, e = .returned (.tuple #[.slice p n cap, .int .i64 e1]) ∧ Below w.heap.size w w')
    (h2 : ∀ w, Calls Tryd.prog 10 #[.string b] w fun e w' => ∃ p n cap, e = .returned (.tuple #[.slice p n cap, .int .i64 e2]) ∧ Below w.heap.size w w')
    (h3 : ∀ w, Calls Tryd.prog 10 #[.string ((a ++ ⟨#[x]⟩) ++ b)] w (WordsPost w none)) :
    Calls Tryd.prog 7 #[.string a, .string b, .int .u8 c] W fun e W' => e = .returned (.bool true) ∧ Below W.heap.size W W' := by
  have hi3 : i < 3 := by omega
  have d1 : decide (600 < (a.size : Int)) = false := by simp; omega
  have d2 : decide (600 < (b.size : Int)) = false := by simp; omega
  have hcells : ∀ (w : World) (B : Nat), Blk w B 9 betweenCells → w.cell? ⟨B, i, none⟩ = some (.string ⟨#[x]⟩) := fun w B h => by rw [h.cell]; exact hcell
  have hs1 : (a ++ ⟨#[x]⟩ : ByteArray).size = a.size + 1 := by rw [ByteArray.size_append]; rfl
  have HC := Lib.hid hcells
  have H1 := Lib.hid h1
  have H2 := Lib.hid h2
  have H3 := Lib.hid h3
  clear hcells hcell h1 h2 h3
  rcases hways with ⟨rfl, rfl⟩ | ⟨rfl, rfl⟩ | ⟨rfl, rfl⟩
  all_goals
    go_enter Tryd.func7, Tryd.ntmps7
    go_wp2_with fail
    refine (awake_any W).mono ?_
    rintro e w1 ⟨rfl, hb1⟩
    go_wp2_with fail
    obtain ⟨W1, hW1⟩ : ∃ W1, W1 = w1.alloc (Obj.cells betweenCells 9) := ⟨_, rfl⟩
    have hw := hW1
    unfold betweenCells at hw
    rw [← hw]
    clear hw
    have hBk : Blk W1 w1.heap.size 9 betweenCells := by rw [hW1]; exact Blk.made w1 _ _
    have hB1 : Below W.heap.size W W1 := by rw [hW1]; exact hb1.alloc hb1.size _
    clear hW1
    refine (H1.out W1).mono ?_
    rintro e w2 ⟨p2, n2, c2, rfl, hb2⟩
    have hB2 := hB1.trans (hb2.mono hB1.size)
    have hBk2 := hBk.later hb2
    go_wp2_with fail
    refine (H2.out w2).mono ?_
    rintro e w3 ⟨p3, n3, c3, rfl, hb3⟩
    have hB3 := hB2.trans (hb3.mono hB2.size)
    have k3 := HC.out w3 w1.heap.size (hBk2.later hb3)
    go_wp2_with fail
    refine (H3.out w3).mono ?_
    rintro e w4 ⟨rfl, hb4⟩
    have hB4 := hB3.trans (hb4.mono hB3.size)
    go_wp2_with fail
    go_ret
    exact ⟨rfl, hB4⟩

set_option maxRecDepth 100000 in
set_option maxHeartbeats 2000000 in
theorem bothYes (a b : ByteArray) (c : Int) (W : World) (hc : 0 ≤ c ∧ c ≤ 255) (ha : a.size ≤ 600) (hb : b.size ≤ 600) (i : Nat) (x : UInt8) (hi : c % 3 = (i : Int)) (hcell : betweenCells[i]? = some (.string ⟨#[x]⟩))
    (ta tb : List Tok) (hpb : ∀ t ∈ tb, t.p ≤ 600)
    (h1 : ∀ w, Calls Tryd.prog 10 #[.string a] w (WordsPost w (some ta)))
    (h2 : ∀ w, Calls Tryd.prog 10 #[.string b] w (WordsPost w (some tb)))
    (h3 : ∀ w, Calls Tryd.prog 10 #[.string ((a ++ ⟨#[x]⟩) ++ b)] w (WordsPost w (some (ta ++ tb.map (shiftT (a.size + 1)))))) :
    Calls Tryd.prog 7 #[.string a, .string b, .int .u8 c] W fun e W' => e = .returned (.bool true) ∧ Below W.heap.size W W' := by
  obtain ⟨i0, hi0, hz0, hz1, hz2⟩ := info_parts tok_info
  have hi3 : i < 3 := by omega
  have d1 : decide (600 < (a.size : Int)) = false := by simp; omega
  have d2 : decide (600 < (b.size : Int)) = false := by simp; omega
  have hcells : ∀ (w : World) (B : Nat), Blk w B 9 betweenCells → w.cell? ⟨B, i, none⟩ = some (.string ⟨#[x]⟩) := fun w B h => by rw [h.cell]; exact hcell
  have hs1 : (a ++ ⟨#[x]⟩ : ByteArray).size = a.size + 1 := by rw [ByteArray.size_append]; rfl
  have HC := Lib.hid hcells
  have H1 := Lib.hid h1
  have H2 := Lib.hid h2
  have H3 := Lib.hid h3
  clear hcells hcell h1 h2 h3
  go_enter Tryd.func7, Tryd.ntmps7
  go_wp2_with fail
  refine (awake_any W).mono ?_
  rintro e w1 ⟨rfl, hb1⟩
  go_wp2_with fail
  obtain ⟨W1, hW1⟩ : ∃ W1, W1 = w1.alloc (Obj.cells betweenCells 9) := ⟨_, rfl⟩
  have hw := hW1
  unfold betweenCells at hw
  rw [← hw]
  clear hw
  have hBk : Blk W1 w1.heap.size 9 betweenCells := by rw [hW1]; exact Blk.made w1 _ _
  have hB1 : Below W.heap.size W W1 := by rw [hW1]; exact hb1.alloc hb1.size _
  clear hW1
  refine (H1.out W1).mono ?_
  rintro e w2 ⟨p2, c2, rfl, ho2, hb2, hl2⟩
  have hB2 := hB1.trans (hb2.mono hB1.size)
  have hBk2 := hBk.later hb2
  go_wp2_with fail
  refine (H2.out w2).mono ?_
  rintro e w3 ⟨p3, c3, rfl, ho3, hb3, hl3⟩
  have hB3 := hB2.trans (hb3.mono hB2.size)
  have ho23 := own_below ho2 hb3
  have k3 := HC.out w3 w1.heap.size (hBk2.later hb3)
  go_wp2_with fail
  refine (H3.out w3).mono ?_
  rintro e w4 ⟨p4, c4, rfl, ho4, hb4, hl4⟩
  have hB4 := hB3.trans (hb4.mono hB3.size)
  have ho24 := own_below ho23 hb4
  have ht4 := Toks.of_own (own_below ho3 hb4)
  have hu4 := Toks.of_own ho4
  clear k3 ho2 ho3 ho23 ho4 hBk2 hBk
  obtain ⟨n4, hn4⟩ : ∃ n4, (ta ++ tb.map (shiftT (a.size + 1))).length = n4 := ⟨_, rfl⟩
  obtain ⟨na, hna⟩ : ∃ na, ta.length = na := ⟨_, rfl⟩
  obtain ⟨nb, hnb⟩ : ∃ nb, tb.length = nb := ⟨_, rfl⟩
  have hnn : n4 = na + nb := by rw [← hn4, ← hna, ← hnb]; simp
  rw [hn4, hna, hnb]
  rw [hna] at ho24
  have HN4 := Lib.hid hn4
  have HNA := Lib.hid hna
  have HNB := Lib.hid hnb
  have hnal : na ≤ 4000 := by omega
  have hnbl : nb ≤ 4000 := by omega
  have HPB := Lib.hid hpb
  have HNN := Lib.hid hnn
  clear hnn
  clear hn4 hna hnb hl2 hl3 hl4 hpb
  obtain ⟨W5, hW5⟩ : ∃ W5, W5 = w4.alloc (Obj.cells #[] 30) := ⟨_, rfl⟩
  have hown5 : W5.ownsRow w4.heap.size 30 4 (.slice (some ⟨w4.heap.size, 0, none⟩) 0 0) 0 [] := by
    rw [hW5]
    have := World.ownsRow_made (base := w4.heap.size) (e := 30) (size := 4) w4 #[] 0 (Nat.le_refl _) (by unfold maxLen; omega) (by simp)
    simpa using this
  have hB5 : Below w4.heap.size w4 W5 := by rw [hW5]; exact (Below.refl _ _).alloc (Nat.le_refl _) _
  have hst : ∀ (v : Value) (w5 : World), w5.ownsRow w4.heap.size 30 4 v na (toksV (tsV ta)) → w5.ownsRow w4.heap.size 30 4 v (na + 0) (toksV (tsV (ta ++ (tb.take 0).map (shiftT (a.size + 1))))) := by
    intro v w5 h
    simpa using h
  have HST := Lib.hid hst
  have HW5 := Lib.hid hW5
  clear hW5 hst
  have hpost : Below W.heap.size W w4 := hB4
  rcases ho24.2 with ⟨hv, h0⟩ | ⟨g, cp, cur, hv, hbb, hg, hr⟩
  case' inl =>
    simp only [Value.slice.injEq] at hv
    obtain ⟨rfl, -, rfl⟩ := hv
    have hta : ta = [] := List.length_eq_zero_iff.1 (HNA.out.trans h0)
    have H0 := Lib.hid h0
    have HXN := Lib.hid (show Value.slice none na 0 = Value.slice none 0 0 by rw [h0])
    clear h0
    go_wp2_with (at_builtin; rw [← HW5.out]; refine wpList_append_own_none rfl (.tmp 68) (.tmp 69) _ rfl w4.heap.size 30 i0 4 Tryd.underlying23 hi0 _ 0 [] rfl hown5 HXN.out ?_)
    have hown6 := HST.out (.slice (some ⟨w4.heap.size, 0, none⟩) 0 0) W5 (by rw [hta, H0.out]; exact hown5)
    obtain ⟨w6, hw6⟩ : ∃ w6, w6 = W5 := ⟨_, rfl⟩
    have hB6 := hB5
    rw [← hw6] at hown6 hB6 ⊢
    have HO6 := Lib.hid hown6
    clear hw6 hown5 hB5 HST hown6 ho24 hta
  case' inr =>
    simp only [Value.slice.injEq] at hv
    obtain ⟨rfl, -, rfl⟩ := hv
    have hsrc : ∀ j u, (toksV (tsV ta))[j]? = some u → W5.cell? ((⟨g, 0, none⟩ : Addr).add j) = some u := by
      intro j u hu
      have h1 := ho24.cells (g := g) rfl j u hu
      rw [addr_add, hB5.cell (p := ⟨g, 0 + j, none⟩) (Array.getElem?_eq_some_iff.1 hg).1, ← addr_add]
      exact h1
    have hone : ∀ u ∈ toksV (tsV ta), u.oneCell' = true := by
      intro u hu
      unfold toksV at hu
      obtain ⟨t, _, ht⟩ := List.mem_flatMap.1 hu
      simp [TokV.cells] at ht
      rcases ht with rfl | rfl | rfl | rfl <;> rfl
    have hlen : (toksV (tsV ta)).length = na * 4 := by rw [toksV_length, tsV_length, HNA.out]
    have HSRC := Lib.hid hsrc
    have HONE := Lib.hid hone
    have HLEN := Lib.hid hlen
    clear hsrc hone hlen hr
    go_wp2_with (at_builtin; rw [← HW5.out]; refine wpList_append_own W5 rfl (.tmp 68) (.tmp 69) _ rfl w4.heap.size 30 i0 _ 4 40 Tryd.underlying23 hi0 hz0 hz1 hz2 rfl (by omega) _ 0 [] rfl hown5 ⟨g, 0, none⟩ na _ (toksV (tsV ta)) rfl HLEN.out HSRC.out HONE.out (by unfold maxLen; omega) (by omega) hB5.size ?_; intro v6 w6 hown6' hg6 _)
    have hown6 := HST.out v6 w6 (by rw [Nat.zero_add, List.nil_append] at hown6'; exact hown6')
    have hB6 : Below w4.heap.size w4 w6 := below_gb hB5 hg6 hB5.size (fun k hk => by have h : some w4.heap.size = some k := hk; injection h with h; omega)
    have HO6 := Lib.hid hown6
    clear hown5 hB5 HST hown6 ho24 hown6' hg6
  all_goals
    go_loopw [15, 16] (fun v i wr => ∃ k : Nat, i = .int .i64 k ∧ k ≤ nb ∧ Hid (wr.ownsRow w4.heap.size 30 4 v (na + k) (toksV (tsV (ta ++ (tb.take k).map (shiftT (a.size + 1)))))) ∧ Below w4.heap.size w4 wr) (fun _ i _ => nb - (intOf i).toNat)
    case atStart => exact ⟨0, rfl, Nat.zero_le _, HO6, hB6⟩
    case round =>
      obtain ⟨k, rfl, hk, HO, hbr⟩ := hrel
      rename_i v wr
      obtain ⟨p, cap, rfl⟩ := own_slice HO.out
      by_cases hlt : k < nb
      · have hkt : k < tb.length := by rw [HNB.out]; exact hlt
        obtain ⟨bq, o, rfl, -, e0, e1, e2, e3⟩ := (ht4.later hbr).at_ k (by rw [tsV_length]; exact hkt)
        obtain ⟨t, htk⟩ : ∃ t, tb[k] = t := ⟨_, rfl⟩
        have hv : (tsV tb)[k]'(by rw [tsV_length]; exact hkt) = t.v := by unfold tsV; rw [List.getElem_map, htk]
        have htp : t.p ≤ 600 := HPB.out t (by rw [← htk]; exact List.getElem_mem _)
        rw [hv] at e0 e1 e2 e3
        have htake : tb.take (k + 1) = tb.take k ++ [t] := by rw [List.take_succ_eq_append_getElem hkt, htk]
        obtain ⟨tk, tt, tn, tp⟩ := t
        have g0 : wr.cell? ⟨bq, o + k * 4, none⟩ = some (.int .i64 tk) := e0
        have g1 : wr.cell? ⟨bq, o + k * 4 + 1, none⟩ = some (.string (bs tt)) := e1
        have g2 : wr.cell? ⟨bq, o + k * 4 + 2, none⟩ = some (.int .i64 tn) := e2
        have g3 : wr.cell? ⟨bq, o + k * 4 + 3, none⟩ = some (.int .i64 (tp : Int)) := e3
        have htp : tp ≤ 600 := htp
        have HTK := Lib.hid htake
        obtain ⟨T, hT⟩ : ∃ T, bs tt = T := ⟨_, rfl⟩
        rw [hT] at g1
        have HT := Lib.hid hT
        clear hv htk htake hT e0 e1 e2 e3
        obtain ⟨W7, hW7⟩ : ∃ W7, W7 = (wr.alloc (Obj.cells #[Value.int .i64 tk, Value.string T, Value.int .i64 tn, Value.int .i64 (↑tp + ↑a.size + 1)] 30)).alloc (Obj.cells #[Value.int .i64 tk, Value.string T, Value.int .i64 tn, Value.int .i64 (↑tp + ↑a.size + 1)] 30) := ⟨_, rfl⟩
        have HNew : Blk W7 (wr.heap.size + 1) 30 #[Value.int .i64 tk, Value.string T, Value.int .i64 tn, Value.int .i64 (↑tp + ↑a.size + 1)] := by
          rw [hW7]
          have := Blk.made (wr.alloc (Obj.cells #[Value.int .i64 tk, Value.string T, Value.int .i64 tn, Value.int .i64 (↑tp + ↑a.size + 1)] 30)) 30 #[Value.int .i64 tk, Value.string T, Value.int .i64 tn, Value.int .i64 (↑tp + ↑a.size + 1)]
          simpa [go_sem] using this
        have hown7 := (HO.out.alloc (Obj.cells #[Value.int .i64 tk, Value.string T, Value.int .i64 tn, Value.int .i64 (↑tp + ↑a.size + 1)] 30)).alloc (Obj.cells #[Value.int .i64 tk, Value.string T, Value.int .i64 tn, Value.int .i64 (↑tp + ↑a.size + 1)] 30)
        rw [← hW7] at hown7
        have hB7 : Below w4.heap.size w4 W7 := by
          rw [hW7]
          exact (hbr.alloc hbr.size _).alloc (by simp [go_sem]; exact Nat.le_succ_of_le hbr.size) _
        have hnews : ∀ j u, (TokV.cells ⟨tk, T, tn, (↑tp + ↑a.size + 1)⟩)[j]? = some u → W7.cell? ((⟨wr.heap.size + 1, 0, none⟩ : Addr).add j) = some u := by
          intro j u hu
          rw [addr_add, Nat.zero_add, HNew.cell]
          simpa [TokV.cells] using hu
        have hlow : ∀ q, (Value.slice p (na + k) cap).ownBlock = some q → w4.heap.size ≤ q ∧ q < wr.heap.size := fun q hq => HO.out.lt q hq
        have HW7 := Lib.hid hW7
        have HNW := Lib.hid hnews
        have HLOW := Lib.hid hlow
        have HO7 := Lib.hid hown7
        clear hW7 hnews hlow hown7 HNew
        go_wp2_with (at_builtin; rw [← HW7.out]; refine wpList_append_own W7 rfl (.tmp 88) (.tmp 90) _ rfl w4.heap.size 30 i0 _ 4 40 Tryd.underlying23 hi0 hz0 hz1 hz2 rfl (by omega) _ (na + k) _ rfl HO7.out ⟨wr.heap.size + 1, 0, none⟩ 1 1 (TokV.cells ⟨tk, T, tn, (↑tp + ↑a.size + 1)⟩) rfl rfl HNW.out (by simp [TokV.cells, Value.oneCell']) (by unfold maxLen; omega) (by omega) hB7.size ?_; intro v8 w8 hown8 hg8 _)
        have hB8 : Below w4.heap.size w4 w8 := below_gb hB7 hg8 hB7.size (fun q hq => (HLOW.out q hq).1)
        have hown9 : w8.ownsRow w4.heap.size 30 4 v8 (na + (k + 1)) (toksV (tsV (ta ++ (tb.take (k + 1)).map (shiftT (a.size + 1))))) := by
          rw [HTK.out, List.map_append, ← List.append_assoc]
          show w8.ownsRow w4.heap.size 30 4 v8 (na + k + 1) (toksV (tsV (ta ++ (tb.take k).map (shiftT (a.size + 1)) ++ [shiftT (a.size + 1) ⟨tk, tt, tn, tp⟩])))
          rw [tsV_snoc, toksV_snoc]
          show w8.ownsRow w4.heap.size 30 4 v8 (na + k + 1) (toksV (tsV (ta ++ (tb.take k).map (shiftT (a.size + 1)))) ++ TokV.cells ⟨tk, bs tt, tn, ((tp + (a.size + 1) : Nat) : Int)⟩)
          rw [HT.out, show ((tp + (a.size + 1) : Nat) : Int) = ↑tp + ↑a.size + 1 from by omega]
          exact hown8
        have HO9 := Lib.hid hown9
        clear hown8 hown9 hg8 HO7 hB7
        go_roundw
        case rel => exact ⟨k + 1, by go_num, by omega, HO9, hB8⟩
        case measure => simp [intOf]; omega
      · obtain rfl : k = nb := by omega
        have hwant : Toks wr p (tsV (ta ++ tb.map (shiftT (a.size + 1)))) := by
          have h := HO.out
          rw [List.take_of_length_le (by rw [HNB.out]; exact Nat.le_refl _)] at h
          exact Toks.of_own h
        have hS := same_true p4 p (tsV (ta ++ tb.map (shiftT (a.size + 1)))) n4 c4 cap wr (hu4.later hbr) hwant (by rw [tsV_length]; exact HN4.out) (by have := HNN.out; omega)
        rw [← HNN.out]
        have HSM := Lib.hid hS
        clear hS hwant
        go_wp2_with fail
        refine HSM.out.mono ?_
        rintro e w9 ⟨rfl, y, rfl⟩
        go_wp2_with fail
        go_ret
        exact ⟨rfl, below_drewN (hpost.trans (hbr.mono hpost.size)) y⟩

theorem walkLexBoth (a b : ByteArray) (c : Int) (W : World) (ha : a.size ≤ maxLen) (hb : b.size ≤ maxLen) (hc : 0 ≤ c ∧ c ≤ 255) :
    Calls Tryd.prog 7 #[.string a, .string b, .int .u8 c] W fun e W' => e = .returned (.bool true) ∧ Below W.heap.size W W' := by
  unfold maxLen at ha hb
  by_cases h6a : 600 < a.size
  · have d1 : decide (600 < (a.size : Int)) = true := by simp; omega
    go_enter Tryd.func7, Tryd.ntmps7
    go_wp2_with fail
    refine (awake_any W).mono ?_
    rintro e w1 ⟨rfl, hb1⟩
    go_wp2_with fail
    go_ret
    exact ⟨rfl, hb1⟩
  · by_cases h6b : 600 < b.size
    · have d1 : decide (600 < (a.size : Int)) = false := by simp; omega
      have d2 : decide (600 < (b.size : Int)) = true := by simp; omega
      go_enter Tryd.func7, Tryd.ntmps7
      go_wp2_with fail
      refine (awake_any W).mono ?_
      rintro e w1 ⟨rfl, hb1⟩
      go_wp2_with fail
      go_ret
      exact ⟨rfl, hb1⟩
    · obtain ⟨i, x, hi, hcell, hx⟩ : ∃ (i : Nat) (x : UInt8), c % 3 = (i : Int) ∧ betweenCells[i]? = some (.string ⟨#[x]⟩) ∧ blankU x = true := by
        rcases which_ways c hc with h | h | h
        · exact ⟨0, 32, h, rfl, by decide⟩
        · exact ⟨1, 9, h, rfl, by decide⟩
        · exact ⟨2, 10, h, rfl, by decide⟩
      have h1 := fun w => words_any a (by omega) w
      have h2 := fun w => words_any b (by omega) w
      have h3 := fun w => words_any ((a ++ ⟨#[x]⟩) ++ b) (by rw [size_three]; omega) w
      rw [both_words a b x hx] at h3
      cases hwa : wordsP 0 a.data.toList with
      | none =>
        rw [hwa] at h1 h3
        cases hwb : wordsP 0 b.data.toList with
        | none =>
          rw [hwb] at h2
          exact bothNot a b c W hc (by omega) (by omega) i x hi hcell 3 3 (by simp) (fun w => words_none (h1 w)) (fun w => words_none (h2 w)) h3
        | some tb =>
          rw [hwb] at h2
          exact bothNot a b c W hc (by omega) (by omega) i x hi hcell 3 0 (by simp) (fun w => words_none (h1 w)) (fun w => words_some (h2 w)) h3
      | some ta =>
        rw [hwa] at h1 h3
        cases hwb : wordsP 0 b.data.toList with
        | none =>
          rw [hwb] at h2 h3
          exact bothNot a b c W hc (by omega) (by omega) i x hi hcell 0 3 (by simp) (fun w => words_some (h1 w)) (fun w => words_none (h2 w)) h3
        | some tb =>
          have hpl := words_placed 0 _ tb hwb
          rw [hwb] at h2 h3
          exact bothYes a b c W hc (by omega) (by omega) i x hi hcell ta tb (fun t ht => by
            have := placed_le tb 0 _ hpl t ht
            rw [← size_len] at this
            omega) h1 h2 h3
end Go.Proofs.YtplndghcileghaaDoor
