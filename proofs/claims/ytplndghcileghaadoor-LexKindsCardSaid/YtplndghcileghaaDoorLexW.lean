/-
  LEX: Words.
-/
import Derived.Test.YtplndghcileghaaDoorRows
import Derived.ProofKit
import Derived.Test.YtplndghcileghaaDoorLexF
import Derived.Test.YtplndghcileghaaDoorLexT
import Derived.Test.YtplndghcileghaaDoorLexU
namespace Go.Proofs.YtplndghcileghaaDoor
open Go.ChangeShapes Go.WideShapes Go.ChangeAt Go.RowKit

def bs (l : List UInt8) : ByteArray := ⟨l.toArray⟩
def Tok.v (t : Tok) : TokV := ⟨t.k, bs t.t, t.n, (t.p : Int)⟩
def tsV (ts : List Tok) : List TokV := ts.map Tok.v
theorem tsV_length (ts : List Tok) : (tsV ts).length = ts.length := List.length_map _
theorem tsV_snoc (ts : List Tok) (t : Tok) : tsV (ts ++ [t]) = tsV ts ++ [t.v] := by unfold tsV; simp
theorem bs_ext (s : ByteArray) (a b : Nat) : s.extract a b = bs ((s.data.toList.drop a).take (b - a)) := by
  apply ByteArray.ext
  rw [ByteArray.data_extract]
  apply Array.toList_inj.1
  rw [Array.toList_extract]
  simp [List.extract, bs]

/-- what Words leaves: the words, in a row of its own, or none -/
def WordsPost (w : World) (r : Option (List Tok)) (e : Ending) (w' : World) : Prop :=
  match r with
  | none => e = .returned (.tuple #[.slice none 0 0, .int .i64 3]) ∧ Below w.heap.size w w'
  | some ts => ∃ p cap, e = .returned (.tuple #[.slice p ts.length cap, .int .i64 0]) ∧ w'.ownsRow w.heap.size 30 4 (.slice p ts.length cap) ts.length (toksV (tsV ts)) ∧ Below w.heap.size w w' ∧ ts.length ≤ 4000

theorem tok_info : (Tryd.prog.info? 30).map (fun i => (i.zero, i.size, i.bytes)) = some (some (.agg #[.int .i64 0, .string ⟨#[]⟩, .int .i64 0, .int .i64 0]), 4, 40) := by kernel_rfl

theorem own_slice {w : World} {base : Nat} {v : Value} {n : Nat} {xs : List Value} (h : w.ownsRow base 30 4 v n xs) : ∃ p cap, v = .slice p n cap := by
  rcases h.2 with ⟨rfl, rfl⟩ | ⟨g, cap, cur, hv, _⟩
  · exact ⟨none, 0, rfl⟩
  · exact ⟨_, cap, hv⟩

theorem own_below {w w1 : World} {base : Nat} {e : TypeId} {sz : Nat} {v : Value} {n : Nat} {xs : List Value} (h : w.ownsRow base e sz v n xs) (hb : Below w.heap.size w w1) : w1.ownsRow base e sz v n xs := by
  refine h.kept (row := none) (gb_below hb none) ?_
  cases hv : v.ownBlock with
  | none => exact .inl rfl
  | some k => exact .inr (by simp)

theorem skip_eq (s : ByteArray) (a : Nat) : spanF blankB ((strB s).drop a) = ((s.data.toList.drop a).takeWhile blankU).length := by
  rw [← strB_drop, span_tw, ext_drop]; rfl
theorem size_bs (l : List UInt8) : (bs l).size = l.length := by simp [bs, ByteArray.size]
theorem first_at (s : ByteArray) (pos : Nat) : firstE (s.extract pos s.size) = match firstP (s.data.toList.drop pos) with
    | none => .tuple #[.agg #[.int .i64 0, .string ⟨#[]⟩, .int .i64 0, .int .i64 0], .bool false]
    | some (k, n, v) => .tuple #[.agg #[.int .i64 k, .string (bs ((s.data.toList.drop pos).take n)), .int .i64 v, .int .i64 0], .bool true] := by
  unfold firstE
  rw [ext_drop]
  cases firstP (s.data.toList.drop pos) with
  | none => rfl
  | some q =>
    obtain ⟨k, n, v⟩ := q
    show Value.tuple #[.agg #[.int .i64 k, .string ((s.extract pos s.size).extract 0 n), .int .i64 v, .int .i64 0], .bool true] = _
    rw [bs_ext, ext_drop]
    rfl

theorem own_base {w : World} {b0 base : Nat} {e : TypeId} {sz : Nat} {v : Value} {n : Nat} {xs : List Value} (h : w.ownsRow base e sz v n xs) (hb : b0 ≤ base) : w.ownsRow b0 e sz v n xs := by
  refine ⟨h.1, ?_⟩
  rcases h.2 with h2 | ⟨g, cap, cur, h1, h2, h3⟩
  · exact .inl h2
  · exact .inr ⟨g, cap, cur, h1, Nat.le_trans hb h2, h3⟩

set_option maxRecDepth 100000 in
set_option maxHeartbeats 2000000 in
theorem words_any (s : ByteArray) (hs : s.size ≤ 4000) (w : World) :
    Calls Tryd.prog 10 #[.string s] w (WordsPost w (wordsP 0 s.data.toList)) := by
  obtain ⟨i0, hi0, hz0, hz1, hz2⟩ := info_parts tok_info
  have hlen : s.data.toList.length = s.size := by rw [Array.length_toList]; rfl
  have h4 : decide (4000 < (s.size : Int)) = false := by simp; omega
  have HL := Lib.hid hlen
  clear hlen
  go_enter Tryd.func10, Tryd.ntmps10
  go_wp2_with fail
  refine (finders_any w).mono ?_
  rintro e w1 ⟨rfl, T, hw1⟩
  have HF1 : Blk w1 w.heap.size T finderCells := by rw [hw1]; exact Blk.made w T _
  have HB1 : Below w.heap.size w w1 := by rw [hw1]; exact (Below.refl _ w).alloc (Nat.le_refl _) _
  have hsz1 : w.heap.size < w1.heap.size := HF1.lt
  clear hw1
  go_wp2_with fail
  refine (skip_any s 0 (Nat.zero_le _) (by omega) w1).mono ?_
  rintro e w2 ⟨rfl, hb2⟩
  have HB2 : Below w.heap.size w w2 := HB1.trans (hb2.mono HB1.size)
  have HF2 := HF1.later hb2
  obtain ⟨hat0, hfr0⟩ := (AtWord.start s.data.toList).skip
  rw [skip_eq, Nat.zero_add]
  obtain ⟨p0, hp⟩ : ∃ p0, ((s.data.toList.drop 0).takeWhile blankU).length = p0 := ⟨_, rfl⟩
  rw [hp, Nat.zero_add] at hat0 hfr0
  rw [hp]
  have HA0 := Lib.hid hat0
  have HR0 := Lib.hid hfr0
  clear hp hat0 hfr0
  go_wp2_with fail
  go_loopw [4, 6] (fun v a wr => ∃ (pos : Nat) (acc : List Tok), a = .int .i64 pos ∧ Hid (AtWord s.data.toList pos acc) ∧ Hid (Fresh s.data.toList pos) ∧ wr.ownsRow (w.heap.size + 1) 30 4 v acc.length (toksV (tsV acc)) ∧ Below w.heap.size w wr ∧ Blk wr w.heap.size T finderCells) (fun _ a _ => s.size - (intOf a).toNat)
  case atStart => exact ⟨p0, [], rfl, HA0, HR0, World.ownsRow_nil _ _ _ _, HB2, HF2⟩
  case round =>
    obtain ⟨pos, acc, rfl, HA, HR, hown, hb, hF⟩ := hrel
    rename_i v wr
    obtain ⟨p, cap, rfl⟩ := own_slice hown
    have hps : pos ≤ s.size := by have := HA.out.le; rwa [HL.out] at this
    by_cases hlt : pos < s.size
    · have hx : (s.extract pos s.size).size = s.size - pos := by rw [ByteArray.size_extract]; omega
      have hfst := first_any (s.extract pos s.size) (by omega) (by omega) w.heap.size T wr hF
      rw [first_at] at hfst
      cases hf : firstP (s.data.toList.drop pos) with
      | none =>
        rw [hf] at hfst
        have HX := Lib.hid (HA.out.not HR.out (by rw [HL.out]; exact hlt) hf)
        have HFST := Lib.hid hfst
        clear hf hfst hx
        go_wp2_with fail
        refine HFST.out.mono ?_
        rintro e w3 ⟨rfl, hb3⟩
        go_wp2_with fail
        refine bodyPost_ret (v := .tuple #[.slice none 0 0, .int .i64 3]) (by simp [results, Tryd.results10, go_sem]) rfl ?_
        unfold WordsPost
        rw [HX.out]
        exact ⟨rfl, (hb.trans (hb3.mono hb.size)).alloc (Nat.le_trans hb.size hb3.size) _⟩
      | some q =>
        obtain ⟨k, n, v⟩ := q
        rw [hf] at hfst
        obtain ⟨hat, hn1, hn2, hn3⟩ := HA.out.word hf
        obtain ⟨t, ht⟩ : ∃ t, bs ((s.data.toList.drop pos).take n) = t := ⟨_, rfl⟩
        have hts : t.size = n := by rw [← ht, size_bs, hn2]
        have hfst : Calls Tryd.prog 20 #[.slice (some ⟨w.heap.size, 0, none⟩) 3 3, .string (s.extract pos s.size)] wr fun e w' => e = .returned (.tuple #[.agg #[.int .i64 k, .string t, .int .i64 v, .int .i64 0], .bool true]) ∧ Below wr.heap.size wr w' := by rw [← ht]; exact hfst
        rw [HL.out] at hn3
        have HFST := Lib.hid hfst
        have HT := Lib.hid ht
        have HAT := Lib.hid hat
        clear hf hfst hx ht hat hn2
        go_wp2_with fail
        refine HFST.out.mono ?_
        rintro e w3 ⟨rfl, hb3⟩
        obtain ⟨W3, hW3⟩ : ∃ W3, W3 = (w3.alloc (Obj.cells #[Value.int .i64 k, Value.string t, Value.int .i64 v, Value.int .i64 ↑pos] 30)).alloc (Obj.cells #[Value.int .i64 k, Value.string t, Value.int .i64 v, Value.int .i64 ↑pos] 30) := ⟨_, rfl⟩
        have HBox : Blk W3 w3.heap.size 30 #[Value.int .i64 k, Value.string t, Value.int .i64 v, Value.int .i64 ↑pos] := by rw [hW3]; exact (Blk.made w3 _ _).alloc _
        have HNew : Blk W3 (w3.heap.size + 1) 30 #[Value.int .i64 k, Value.string t, Value.int .i64 v, Value.int .i64 ↑pos] := by
          rw [hW3]
          have := Blk.made (w3.alloc (Obj.cells #[Value.int .i64 k, Value.string t, Value.int .i64 v, Value.int .i64 ↑pos] 30)) 30 #[Value.int .i64 k, Value.string t, Value.int .i64 v, Value.int .i64 ↑pos]
          simpa [go_sem] using this
        have hown3 := ((own_below hown hb3).alloc (Obj.cells #[Value.int .i64 k, Value.string t, Value.int .i64 v, Value.int .i64 ↑pos] 30)).alloc (Obj.cells #[Value.int .i64 k, Value.string t, Value.int .i64 v, Value.int .i64 ↑pos] 30)
        rw [← hW3] at hown3
        have hB3 : Below w.heap.size w W3 := by
          rw [hW3]
          have h3 : Below w.heap.size w w3 := hb.trans (hb3.mono hb.size)
          exact (h3.alloc h3.size _).alloc (by simp [go_sem]; exact Nat.le_succ_of_le h3.size) _
        have hF3 : Blk W3 w.heap.size T finderCells := by rw [hW3]; exact ((hF.later hb3).alloc _).alloc _
        have hnews : ∀ j u, (TokV.cells ⟨k, t, v, (pos : Int)⟩)[j]? = some u → W3.cell? ((⟨w3.heap.size + 1, 0, none⟩ : Addr).add j) = some u := by
          intro j u hu
          rw [addr_add, Nat.zero_add, HNew.cell]
          simpa [TokV.cells] using hu
        have hlow : ∀ g, (Value.slice p acc.length cap).ownBlock = some g → w.heap.size + 1 ≤ g ∧ g < w3.heap.size := fun g hg => by
          obtain ⟨h1, h2⟩ := hown.lt g hg
          exact ⟨h1, Nat.lt_of_lt_of_le h2 hb3.size⟩
        have hal : acc.length ≤ 4000 := by have := HAT.out.few; simp at this; omega
        have hbox : ∀ w4, W3.grownBy w4 (Value.slice p acc.length cap).ownBlock → w4.cell? ⟨w3.heap.size, 1, none⟩ = some (.string t) := fun w4 hg =>
          (HBox.beside hg (fun e => by have := (hlow _ e.symm).2; omega)).cell 1
        have HBX := Lib.hid hbox
        clear hbox
        have HW3 := Lib.hid hW3
        have HNW := Lib.hid hnews
        have HLOW := Lib.hid hlow
        clear hW3 hnews hlow
        go_wp2_with (at_builtin; rw [← HW3.out]; refine wpList_append_own W3 rfl (.tmp 34) (.tmp 36) _ rfl (w.heap.size + 1) 30 i0 _ 4 40 Tryd.underlying23 hi0 hz0 hz1 hz2 rfl (by omega) _ acc.length _ rfl hown3 ⟨w3.heap.size + 1, 0, none⟩ 1 1 (TokV.cells ⟨k, t, v, (pos : Int)⟩) rfl rfl HNW.out (by simp [TokV.cells, Value.oneCell']) (by unfold maxLen; omega) (by omega) (Nat.lt_of_lt_of_le hF3.lt (Nat.le_refl _)) ?_; intro v4 w4 hown4 hg4 _; have k1 := HBX.out w4 hg4)
        have hF4 : Blk w4 w.heap.size T finderCells := hF3.beside hg4 (fun e => by have := (HLOW.out _ e.symm).1; omega)
        have hB4 : Below w.heap.size w w4 := below_gb hB3 hg4 hB3.size (fun i hi => by have := (HLOW.out i hi).1; omega)
        have hown5 : w4.ownsRow (w.heap.size + 1) 30 4 v4 (acc ++ [(⟨k, (s.data.toList.drop pos).take n, v, pos⟩ : Tok)]).length (toksV (tsV (acc ++ [(⟨k, (s.data.toList.drop pos).take n, v, pos⟩ : Tok)]))) := by
          rw [tsV_snoc, toksV_snoc, List.length_append]
          show w4.ownsRow (w.heap.size + 1) 30 4 v4 (acc.length + 1) (toksV (tsV acc) ++ TokV.cells ⟨k, bs ((s.data.toList.drop pos).take n), v, (pos : Int)⟩)
          rw [HT.out]
          exact hown4
        have HB4 := Lib.hid hB4
        have HF4 := Lib.hid hF4
        have HO5 := Lib.hid hown5
        clear hown4 hF4 hB4 hown5 k1
        rw [show (↑pos + ↑n : Int) = ((pos + n : Nat) : Int) from by omega]
        refine (skip_any s (pos + n) hn3 (by omega) w4).mono ?_
        rintro e w5 ⟨rfl, hb5⟩
        obtain ⟨hat5, hfr5⟩ := HAT.out.skip
        rw [skip_eq]
        obtain ⟨p5, hp5⟩ : ∃ p5, pos + n + ((s.data.toList.drop (pos + n)).takeWhile blankU).length = p5 := ⟨_, rfl⟩
        rw [hp5] at hat5 hfr5 ⊢
        have hle5 : pos < p5 := by omega
        have hle6 : p5 ≤ s.size := by have := hat5.le; rwa [HL.out] at this
        have HA5 := Lib.hid hat5
        have HR5 := Lib.hid hfr5
        clear hp5 hat5 hfr5
        go_wp2_with fail
        go_roundw
        case rel => exact ⟨p5, _, rfl, HA5, HR5, own_below HO5.out hb5, HB4.out.trans (hb5.mono HB4.out.size), HF4.out.later hb5⟩
        case measure => simp [intOf]; omega
    · have HX := Lib.hid (HA.out.done (by rw [HL.out]; exact hlt))
      have hfew := HA.out.few
      go_wp2_with fail
      refine bodyPost_ret (v := .tuple #[.slice p acc.length cap, .int .i64 0]) (by simp [results, Tryd.results10, go_sem]) rfl ?_
      unfold WordsPost
      rw [HX.out]
      exact ⟨p, cap, rfl, own_base hown (Nat.le_succ _), hb, by omega⟩
end Go.Proofs.YtplndghcileghaaDoor
