/-
  LEX: the contracts of the classes of runes, of span, skip.
-/
import Derived.Test.YtplndghcileghaaDoorRows
import Derived.ProofKit
import Derived.Test.YtplndghcileghaaDoorByts
import Derived.Test.YtplndghcileghaaDoorLexP
import Derived.Laws.RangeAny
import Derived.Laws.RangeString
import Derived.LoopTactic
import Derived.Laws.BytesArg
namespace Go.Proofs.YtplndghcileghaaDoor
open Go.ChangeShapes Go.WideShapes Go.ChangeAt Go.RowKit

theorem blank_any (c : Int) (w : World) : Calls Tryd.prog 35 #[.int .i32 c] w fun e w' => e = .returned (.bool (blankB c)) ∧ w' = w := by
  go_enter Tryd.func35, Tryd.ntmps35
  go_wp2
  all_goals go_ret
  all_goals (refine ⟨?_, rfl⟩; simp_all [blankB])
theorem letter_any (c : Int) (w : World) : Calls Tryd.prog 25 #[.int .i32 c] w fun e w' => e = .returned (.bool (letterB c)) ∧ w' = w := by
  go_enter Tryd.func25, Tryd.ntmps25
  go_wp2
  all_goals go_ret
  all_goals (refine ⟨?_, rfl⟩; simp_all [letterB] <;> omega)
theorem digit_any (c : Int) (w : World) : Calls Tryd.prog 28 #[.int .i32 c] w fun e w' => e = .returned (.bool (digitB c)) ∧ w' = w := by
  go_enter Tryd.func28, Tryd.ntmps28
  go_wp2
  all_goals go_ret
  all_goals (refine ⟨?_, rfl⟩; simp_all [digitB] <;> omega)
theorem inName_any (c : Int) (w : World) : Calls Tryd.prog 40 #[.int .i32 c] w fun e w' => e = .returned (.bool (inNameB c)) ∧ w' = w := by
  go_enter Tryd.func40, Tryd.ntmps40
  go_wp2_with fail
  refine (letter_any c w).mono ?_
  rintro e w1 ⟨rfl, rfl⟩
  cases hl : letterB c
  · go_wp2_with fail
    refine (digit_any c w1).mono ?_
    rintro e w2 ⟨rfl, rfl⟩
    cases hd : digitB c
    · go_wp2_with fail
      all_goals go_ret
      all_goals (refine ⟨?_, rfl⟩; simp_all [inNameB])
    · go_wp2_with fail
      all_goals go_ret
      all_goals (refine ⟨?_, rfl⟩; simp_all [inNameB])
  · go_wp2_with fail
    all_goals go_ret
    all_goals (refine ⟨?_, rfl⟩; simp_all [inNameB])

/-- a text's bytes -/
def strB (s : ByteArray) : List Int := s.data.toList.map fun b => (b.toNat : Int)
theorem strB_length (s : ByteArray) : (strB s).length = s.size := by unfold strB; rw [List.length_map, Array.length_toList]; rfl

/-- how many bytes a row begins with of which P holds -/
def spanF (P : Int → Bool) (bs : List Int) : Nat := (bs.takeWhile P).length

theorem strB_at (s : ByteArray) (i : Nat) (h : i < s.size) : (strB s)[i]? = some ((s[i]'h).toNat : Int) := by
  have h' : i < s.data.size := h
  unfold strB
  rw [List.getElem?_map, Array.getElem?_toList, Array.getElem?_eq_getElem h']
  rfl

theorem takeWhile_at (P : Int → Bool) : ∀ (l : List Int) (n : Nat), n ≤ l.length → (∀ j c, j < n → l[j]? = some c → P c = true) → (n = l.length ∨ ∃ c, l[n]? = some c ∧ P c = false) → (l.takeWhile P).length = n
  | [], n, hn, _, _ => by have : n = 0 := by simpa using hn
                          subst this; rfl
  | c :: l, 0, _, _, h => by
    rcases h with h | ⟨d, hd, hp⟩
    · simp at h
    · have : c = d := by simpa using hd
      subst this
      simp [List.takeWhile, hp]
  | c :: l, n + 1, hn, ha, h => by
    have hc : P c = true := ha 0 c (by omega) rfl
    have := takeWhile_at P l n (by simpa using hn) (fun j d hj hd => ha (j + 1) d (by omega) (by simpa using hd)) (by simpa using h)
    simp [List.takeWhile, hc, this]

theorem spanF_at (P : Int → Bool) (l : List Int) (n : Nat) (hn : n ≤ l.length) (ha : ∀ j c, j < n → l[j]? = some c → P c = true) (h : n = l.length ∨ ∃ c, l[n]? = some c ∧ P c = false) : spanF P l = n := takeWhile_at P l n hn ha h

/-- a function that tells of a rune, of every rune and in every world -/
def PredB (fid : Nat) (P : Int → Bool) : Prop := ∀ (c : Int) (w : World), Calls Tryd.prog fid #[.int .i32 c] w fun e w' => e = .returned (.bool (P c)) ∧ w' = w

set_option maxRecDepth 100000 in
theorem span_any (s : ByteArray) (fid : Nat) (P : Int → Bool) (HE : ∀ args w, (callFunc fid args).run Tryd.prog w = .ok (.enter fid args) w) (HP : PredB fid P) (hP : ∀ c, 128 ≤ c → P c = false) (w : World) :
    Calls Tryd.prog 34 #[.string s, .func (Fn.func fid) #[] #[]] w fun e w' => e = .returned (.int .i64 (spanF P (strB s) : Nat)) ∧ ∃ pos, w' = w.iter s pos := by
  have HPh := Lib.hid HP
  have hPh := Lib.hid hP
  clear HP hP
  go_enter Tryd.func34, Tryd.ntmps34
  go_wp2_with fail
  go_loopw [5, 6] (fun _ _ w' => ∃ (pos : Nat), w' = w.iter s pos ∧ pos ≤ s.size ∧ Hid (∀ j c, j < pos → (strB s)[j]? = some c → P c = true)) (fun _ _ w' => s.size - w'.iterPos w.heap.size)
  case atStart => exact ⟨0, rfl, by omega, Lib.hid (fun j c hj => absurd hj (by omega))⟩
  case round =>
    obtain ⟨pos, rfl, hps, HA⟩ := hrel
    by_cases hp : pos < s.size
    · have hnx : ∀ ty, (Instr.next (.pointer (some ⟨w.heap.size, 0, none⟩)) true ty).run Tryd.prog (w.iter s pos) = _ := fun ty => run_next_any w s pos ty hp
      have hat := Lib.hid (strB_at s pos hp)
      obtain ⟨r, d, hrd⟩ : ∃ r d, Utf8.decode s pos = (r, d) := ⟨_, _, rfl⟩
      rw [hrd] at hnx
      have hcase : Hid ((r = ((s[pos]'hp).toNat : Int) ∧ d = 1) ∨ (P r = false ∧ P ((s[pos]'hp).toNat : Int) = false)) := by
        by_cases ha : (s[pos]'hp).toNat < 128
        · have := decode_ascii s pos hp ha
          rw [hrd] at this
          injection this with h1 h2
          exact Lib.hid (.inl ⟨by rw [h1], h2⟩)
        · have := decode_high s pos hp (by omega)
          rw [hrd] at this
          exact Lib.hid (.inr ⟨hPh.out _ (by have h := this.1; omega), hPh.out _ (by omega)⟩)
      clear hrd
      go_wp2_with fail
      refine (HPh.out r _).mono ?_
      rintro e w1 ⟨rfl, rfl⟩
      cases hv : P r
      · have HV := Lib.hid hv
        clear hv
        go_wp2_with fail
        go_ret
        refine ⟨?_, _, rfl⟩
        have hsp : spanF P (strB s) = pos := by
          refine spanF_at P _ _ (by rw [strB_length]; exact hps) HA.out (.inr ⟨_, hat.out, ?_⟩)
          rcases hcase.out with ⟨h1, -⟩ | ⟨-, h2⟩
          · rw [← h1]; exact HV.out
          · exact h2
        rw [hsp]
        rfl
      · have HV := Lib.hid hv
        clear hv
        have hd : d = 1 := by
          rcases hcase.out with ⟨-, h⟩ | ⟨h, -⟩
          · exact h
          · rw [HV.out] at h; cases h
        have hr : Hid (P ((s[pos]'hp).toNat : Int) = true) := by
          rcases hcase.out with ⟨h, -⟩ | ⟨h, -⟩
          · exact Lib.hid (by rw [← h]; exact HV.out)
          · rw [HV.out] at h; cases h
        subst hd
        go_wp2_with fail
        go_roundw
        case rel =>
          refine ⟨pos + 1, rfl, by omega, Lib.hid ?_⟩
          intro j c hj hc
          by_cases hjp : j < pos
          · exact HA.out j c hjp hc
          · obtain rfl : j = pos := by omega
            rw [hat.out] at hc
            injection hc with hc
            rw [← hc]; exact hr.out
        case measure =>
          simp
          omega
    · have hnx : ∀ ty, (Instr.next (.pointer (some ⟨w.heap.size, 0, none⟩)) true ty).run Tryd.prog (w.iter s pos) = _ := fun ty => run_next_end w s pos ty hp
      go_wp2_with fail
      go_ret
      refine ⟨?_, _, rfl⟩
      have hpe : pos = s.size := by omega
      have hsp : spanF P (strB s) = pos := spanF_at P _ _ (by rw [strB_length]; exact hps) HA.out (.inl (by rw [strB_length]; exact hpe))
      rw [hsp, hpe]
      rfl

end Go.Proofs.YtplndghcileghaaDoor
