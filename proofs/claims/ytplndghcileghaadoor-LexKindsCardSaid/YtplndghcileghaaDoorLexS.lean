/-
  LEX: Show.
-/
import Derived.Test.YtplndghcileghaaDoorRows
import Derived.ProofKit
import Derived.Test.YtplndghcileghaaDoorLexW
import Derived.OwnWalk
namespace Go.Proofs.YtplndghcileghaaDoor
open Go.ChangeShapes Go.WideShapes Go.ChangeAt Go.RowKit

theorem join_show : ∀ l : List (List UInt8), Lib.join l [32] = showP l
  | [] => rfl
  | [x] => Lib.join_one x [32]
  | x :: y :: r => by
    rw [Lib.join_cons]
    have ih := join_show (y :: r)
    rw [Lib.join_cons] at ih
    show x ++ ([32] ++ y ++ Lib.joinTail [32] r) = x ++ 32 :: showP (y :: r)
    rw [← ih]
    simp
theorem showP_snoc : ∀ (l : List (List UInt8)) (x : List UInt8), showP (l ++ [x]) = if l = [] then x else showP l ++ 32 :: x
  | [], x => rfl
  | [y], x => by simp [showP]
  | y :: z :: r, x => by
    have ih := showP_snoc (z :: r) x
    rw [if_neg (by simp)] at ih
    rw [if_neg (by simp)]
    show y ++ 32 :: showP (z :: r ++ [x]) = (y ++ 32 :: showP (z :: r)) ++ 32 :: x
    rw [ih]; simp

def textsV (ts : List TokV) : List (List UInt8) := ts.map (fun t => t.t.data.toList)
theorem str_info : (Tryd.prog.info? 9).map (fun i => (i.zero, i.size, i.bytes)) = some (some (.string ⟨#[]⟩), 1, 16) := by kernel_rfl
theorem own_row {w : World} {base : Nat} {e : TypeId} {sz n cap g : Nat} {xs : List Value} (h : w.ownsRow base e sz (.slice (some ⟨g, 0, none⟩) n cap) n xs) : base ≤ g ∧ g < w.heap.size := h.lt g rfl

set_option maxRecDepth 100000 in
set_option maxHeartbeats 1000000 in
theorem show_any (p : Option Addr) (ts : List TokV) (c : Nat) (w : World) (ht : Toks w p ts) (hl : ts.length ≤ 1000000) (hlen : (showP (textsV ts)).length ≤ 140737488355328) :
    Calls Tryd.prog 13 #[.slice p ts.length c] w fun e w' => e = .returned (.string (bs (showP (textsV ts)))) ∧ Below w.heap.size w w' := by
  obtain ⟨i0, hi0, hz0, hz1, hz2⟩ := info_parts str_info
  have HLN := Lib.hid hlen
  clear hlen
  obtain ⟨n, hn⟩ : ∃ n, ts.length = n := ⟨_, rfl⟩
  have HN := Lib.hid hn
  rw [hn] at hl ⊢
  clear hn
  go_enter Tryd.func13, Tryd.ntmps13
  go_wp2_with (refine wpList_make_full w rfl (.tmp 7) (.tmp 7) 34 rfl w.heap.size 9 i0 _ 1 Tryd.underlying34 hi0 hz0 hz1 .i64 .i64 _ _ n rfl rfl rfl rfl (by rw [hz2]; omega) (by unfold maxLen; omega) (Nat.le_refl _) ?_; intro w1 hown1 hg1)
  have hB1 : Below w.heap.size w w1 := (Below.refl _ w).grown hg1 (Nat.le_refl _) (by intro k hk; cases hk)
  go_loopw [11] (fun i wr => ∃ (k : Nat) (xs : List Value), i = .int .i64 k ∧ k ≤ n ∧ wr.ownsRow w.heap.size 9 1 (.slice (some ⟨w.heap.size, 0, none⟩) n n) n xs ∧ Hid (xs.take k = (ts.map (fun t => Value.string t.t)).take k) ∧ Below w.heap.size w wr) (fun i _ => n - (intOf i).toNat)
  case atStart => exact ⟨0, _, rfl, Nat.zero_le _, hown1, Lib.hid rfl, hB1⟩
  case round =>
    obtain ⟨k, xs, rfl, hk, hown, HX, hb⟩ := hrel
    rename_i wr
    have hxl : xs.length = n := by have := hown.1; omega
    have HXL := Lib.hid hxl
    clear hxl
    by_cases hlt : k < n
    · obtain ⟨b, o, rfl, _, g0, g1, g2, g3⟩ := (ht.later hb).at_ k (by rw [HN.out]; exact hlt)
      obtain ⟨x, hx⟩ : ∃ x, ts[k]'(by rw [HN.out]; exact hlt) = x := ⟨_, rfl⟩
      rw [hx] at g0 g1 g2 g3
      have HTK := Lib.hid hx
      clear hx
      have hown2 := hown.alloc (Obj.cells #[Value.int .i64 x.k, Value.string x.t, Value.int .i64 x.n, Value.int .i64 x.p] 30)
      obtain ⟨v0, hv0⟩ : ∃ v0, (wr.alloc (Obj.cells #[Value.int .i64 x.k, Value.string x.t, Value.int .i64 x.n, Value.int .i64 x.p] 30)).cell? ⟨w.heap.size, k, none⟩ = some v0 := by
        rw [hown2.cellAt k (by omega)]
        exact ⟨_, List.getElem?_eq_getElem (by rw [HXL.out]; exact hlt)⟩
      have hfz := hown2.frozenAt k
      have hst := (hown2.stored k (.string x.t)).1
      have hb2 : Below w.heap.size w ((wr.alloc (Obj.cells #[Value.int .i64 x.k, Value.string x.t, Value.int .i64 x.n, Value.int .i64 x.p] 30)).setCell ⟨w.heap.size, k, none⟩ (.string x.t)) := (hb.alloc hb.size _).setCell (Nat.le_refl _) _
      have HST := Lib.hid hst
      have HB2 := Lib.hid hb2
      clear hst hb2 hown2
      go_wp2_with fail
      go_roundw
      case rel =>
        refine ⟨k + 1, _, by go_num, by omega, HST.out, Lib.hid ?_, HB2.out⟩
        have hkx : k < xs.length := by rw [HXL.out]; exact hlt
        have hkt : k < ts.length := by rw [HN.out]; exact hlt
        rw [List.take_succ_eq_append_getElem (by simpa using hkx), List.take_succ_eq_append_getElem (by simpa using hkt)]
        rw [List.getElem_set_self, List.take_set_of_le (Nat.le_refl _), HX.out, List.getElem_map, HTK.out]
      case measure => simp [intOf]; omega
    · obtain rfl : k = n := by omega
      have hxs : xs = ts.map (fun t => Value.string t.t) := by
        have := HX.out
        rwa [List.take_of_length_le (by rw [HXL.out]; exact Nat.le_refl _), List.take_of_length_le (by rw [List.length_map, HN.out]; exact Nat.le_refl _)] at this
      have hJ : ∀ wx, wx.ownsRow w.heap.size 9 1 (.slice (some ⟨w.heap.size, 0, none⟩) k k) k xs → Calls Tryd.prog 24 #[.slice (some ⟨w.heap.size, 0, none⟩) k k, .string ⟨#[32]⟩] wx fun e w' => e = .returned (.string (bs (showP (textsV ts)))) ∧ Below wx.heap.size wx w' := by
        intro wx ho
        have h1 := Tryd.strings_Join w.heap.size 0 k (ts.map (·.t)) ⟨#[32]⟩ wx (fun j y hj => by
          rw [Nat.zero_add]
          have hjl : j < k := by
            have := (List.getElem?_eq_some_iff.1 hj).1
            rw [List.length_map, HN.out] at this; exact this
          rw [ho.cellAt j (by omega), hxs, List.getElem?_map]
          rw [List.getElem?_map] at hj
          cases hq : ts[j]? with
          | none => rw [hq] at hj; cases hj
          | some q => rw [hq] at hj; injection hj with hj; rw [← hj]; rfl) (own_row ho).2 (by rw [List.length_map, HN.out]; omega) (by rw [List.length_map, HN.out]; exact Nat.le_refl _) (by
            rw [List.map_map]
            show (Lib.join (textsV ts) [32]).length ≤ _
            rw [join_show]; exact HLN.out)
        rw [List.length_map, HN.out, List.map_map] at h1
        have h2 : Lib.join (List.map ((fun x : ByteArray => x.data.toList) ∘ fun x : TokV => x.t) ts) (⟨#[32]⟩ : ByteArray).data.toList = showP (textsV ts) := join_show (textsV ts)
        rw [h2] at h1
        exact h1
      have HJ := Lib.hid (hJ wr hown)
      clear hxs hJ
      go_wp2_with fail
      refine HJ.out.mono ?_
      rintro e w4 ⟨rfl, hb4⟩
      go_wp2_with fail
      go_ret
      exact ⟨rfl, hb.trans (hb4.mono hb.size)⟩

theorem showP_app (b : List (List UInt8)) : ∀ a : List (List UInt8), (showP a).length ≤ (showP (a ++ b)).length := by
  induction b with
  | nil => intro a; rw [List.append_nil]; exact Nat.le_refl _
  | cons x b ih =>
    intro a
    have h1 := ih (a ++ [x])
    rw [List.append_assoc] at h1
    refine Nat.le_trans ?_ h1
    rw [showP_snoc]
    split
    · rename_i h; rw [h]; simp [showP]
    · simp

def showAt (ts : List TokV) (k : Nat) : List UInt8 := showP (textsV (ts.take k))
theorem bs_append (a b : List UInt8) : bs a ++ bs b = bs (a ++ b) := by
  apply ByteArray.ext
  rw [ByteArray.data_append]
  simp [bs]
theorem bs_data (s : ByteArray) : bs s.data.toList = s := by cases s; simp [bs]

set_option maxHeartbeats 1000000 in
theorem rshow_any (p : Option Addr) (ts : List TokV) (c : Nat) (w : World) (ht : Toks w p ts) (hl : ts.length ≤ 1000000) (hlen : (showP (textsV ts)).length ≤ 100000000) :
    Calls Tryd.prog 14 #[.slice p ts.length c] w fun e w' => e = .returned (.string (bs (showP (textsV ts)))) ∧ Below w.heap.size w w' := by
  have HLN := Lib.hid hlen
  clear hlen
  obtain ⟨n, hn⟩ : ∃ n, ts.length = n := ⟨_, rfl⟩
  have HN := Lib.hid hn
  rw [hn] at hl ⊢
  clear hn
  go_enter Tryd.func14, Tryd.ntmps14
  go_wp2_with fail
  go_loopw [3, 4] (fun s i wr => ∃ k : Nat, i = .int .i64 k ∧ k ≤ n ∧ s = .string (bs (showAt ts k)) ∧ Below w.heap.size w wr) (fun _ i _ => n - (intOf i).toNat)
  case atStart => exact ⟨0, rfl, Nat.zero_le _, rfl, Below.refl _ _⟩
  case round =>
    obtain ⟨k, rfl, hk, rfl, hb⟩ := hrel
    rename_i wr
    by_cases hlt : k < n
    · obtain ⟨b, o, rfl, _, g0, g1, g2, g3⟩ := (ht.later hb).at_ k (by rw [HN.out]; exact hlt)
      obtain ⟨S, hS⟩ : ∃ S, bs (showAt ts k) = S := ⟨_, rfl⟩
      obtain ⟨x, hx⟩ : ∃ x, ts[k]'(by rw [HN.out]; exact hlt) = x := ⟨_, rfl⟩
      rw [hx] at g0 g1 g2 g3
      rw [hS]
      have HS := Lib.hid hS
      have HX := Lib.hid hx
      clear hS hx
      have hsn : showAt ts (k + 1) = if k = 0 then x.t.data.toList else S.data.toList ++ 32 :: x.t.data.toList := by
        have hkt : k < ts.length := by rw [HN.out]; exact hlt
        unfold showAt textsV
        rw [List.take_succ_eq_append_getElem hkt, List.map_append, HX.out]
        show showP (_ ++ [x.t.data.toList]) = _
        rw [showP_snoc, ← HS.out]
        by_cases h0 : k = 0
        · subst h0; simp
        · rw [if_neg h0, if_neg (by intro e; have := congrArg List.length e; rw [List.length_map, List.length_take, List.length_nil] at this; omega)]
          rfl
      have hbd : (showAt ts (k + 1)).length ≤ 100000000 := by
        have h1 := showP_app (textsV (ts.drop (k + 1))) (textsV (ts.take (k + 1)))
        have h2 : textsV (ts.take (k + 1)) ++ textsV (ts.drop (k + 1)) = textsV ts := by
          unfold textsV; rw [← List.map_append, List.take_append_drop]
        rw [h2] at h1
        exact Nat.le_trans h1 HLN.out
      have HSN := Lib.hid hsn
      have hbt : x.t.size ≤ 100000000 := by
        rw [hsn] at hbd
        split at hbd
        · rwa [size_len]
        · rw [size_len]; simp at hbd ⊢; omega
      clear hsn
      rcases Nat.eq_zero_or_pos k with rfl | hk0
      · have hS0 : S = ⟨#[]⟩ := HS.out.symm
        clear hbd
        go_wp2_with fail
        go_roundw
        case rel =>
          refine ⟨1, rfl, by omega, ?_, hb⟩
          have := HSN.out
          rw [if_pos rfl] at this
          rw [this, bs_data]
          congr 1
        case measure => simp [intOf]; omega
      · have hbs : S.size + 1 + x.t.size ≤ 100000000 := by
          rw [HSN.out, if_neg (by omega)] at hbd
          rw [size_len, size_len x.t]; simp at hbd ⊢; omega
        clear hbd
        go_wp2_with fail
        go_roundw
        case rel =>
          refine ⟨k + 1, by go_num, by omega, ?_, hb⟩
          have := HSN.out
          rw [if_neg (by omega)] at this
          rw [this]
          congr 1
          apply ByteArray.ext
          rw [ByteArray.data_append, ByteArray.data_append]
          apply Array.toList_inj.1
          simp [bs]
        case measure => simp [intOf]; omega
    · obtain rfl : k = n := by omega
      have hall : showAt ts k = showP (textsV ts) := by unfold showAt; rw [List.take_of_length_le (by rw [HN.out]; exact Nat.le_refl _)]
      rw [hall]
      clear hall
      go_wp2_with fail
      go_ret
      exact ⟨rfl, hb⟩
end Go.Proofs.YtplndghcileghaaDoor
