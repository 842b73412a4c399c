/-
  LEX: the document's Words.
-/
import Derived.Test.YtplndghcileghaaDoorRows
import Derived.ProofKit
import Derived.Test.YtplndghcileghaaDoorLexW
import Derived.Test.YtplndghcileghaaDoorLexN
namespace Go.Proofs.YtplndghcileghaaDoor
open Go.ChangeShapes Go.WideShapes Go.ChangeAt Go.RowKit

theorem fp_name {l r : List UInt8} {c : UInt8} (hd : l = c :: r) (h : letterU c = true) : firstP l = if (l.takeWhile inNameU).length ≤ 12 then some (1, (l.takeWhile inNameU).length, 0) else none := by
  subst hd; unfold firstP; simp only [h, if_true]
theorem fp_num {l r : List UInt8} {c : UInt8} (hd : l = c :: r) (h : letterU c = false) (h2 : digitU c = true) : firstP l = if numOk (l.takeWhile digitU) (l.dropWhile digitU) then some (2, (l.takeWhile digitU).length, (numV (l.takeWhile digitU) : Int)) else none := by
  subst hd; unfold firstP; simp only [h, h2, if_true]; simp
theorem fp_sign {l r : List UInt8} {c : UInt8} (hd : l = c :: r) (h : letterU c = false) (h2 : digitU c = false) (h3 : signU c = true) : firstP l = some (3, signP l, 0) := by
  subst hd; unfold firstP signP; simp only [h, h2, h3, if_true]; simp
theorem fp_none {l r : List UInt8} {c : UInt8} (hd : l = c :: r) (h : letterU c = false) (h2 : digitU c = false) (h3 : signU c = false) : firstP l = none := by
  subst hd; unfold firstP; simp [h, h2, h3]

set_option maxRecDepth 100000 in
set_option maxHeartbeats 2000000 in
theorem rwords_any (s : ByteArray) (hs : s.size ≤ 4000) (w : World) :
    Calls Tryd.prog 11 #[.string s] w (WordsPost w (wordsP 0 s.data.toList)) := by
  obtain ⟨i0, hi0, hz0, hz1, hz2⟩ := info_parts tok_info
  have hlen : s.data.toList.length = s.size := by rw [Array.length_toList]; rfl
  have h4 : decide (4000 < (s.size : Int)) = false := by simp; omega
  have HL := Lib.hid hlen
  clear hlen
  go_enter Tryd.func11, Tryd.ntmps11
  go_wp2_with fail
  go_loopw [4, 5] (fun v a wr => ∃ (pos : Nat) (acc : List Tok), a = .int .i64 pos ∧ Hid (AtWord s.data.toList pos acc) ∧ wr.ownsRow w.heap.size 30 4 v acc.length (toksV (tsV acc)) ∧ Below w.heap.size w wr) (fun _ a _ => s.size - (intOf a).toNat)
  case atStart => exact ⟨0, [], rfl, Lib.hid (AtWord.start _), World.ownsRow_nil _ _ _ _, Below.refl _ _⟩
  case round =>
    obtain ⟨pos, acc, rfl, HA, hown, hb⟩ := hrel
    rename_i v wr
    obtain ⟨p, cap, rfl⟩ := own_slice hown
    have hps : pos ≤ s.size := by have := HA.out.le; rwa [HL.out] at this
    by_cases hlt : pos < s.size
    · have HD := Lib.hid (drop_at s pos hlt)
      have hal : acc.length ≤ 4000 := by have := HA.out.few; omega
      have hlow : ∀ g, (Value.slice p acc.length cap).ownBlock = some g → w.heap.size ≤ g ∧ g < wr.heap.size := fun g hg => hown.lt g hg
      have HLOW := Lib.hid hlow
      clear hlow
      have hHEAD : ∀ b, blankU (s[pos]'hlt) = b → Hid (blankU (s[pos]'hlt) = b) := fun b h => Lib.hid h
      rcases class_cases (s[pos]'hlt) with ⟨hk, hl, hbl⟩ | ⟨hk, hl, hd, hbl⟩ | ⟨hk, hl, hd, hbl, hg⟩ | ⟨hk, hbl⟩ | ⟨hk, hl, hd, hg, hbl⟩ | ⟨hk, hl, hd, hg, hbl⟩
      · -- a name
        have hf := fp_name HD.out hl
        obtain ⟨n, hn⟩ : ∃ n, ((s.data.toList.drop pos).takeWhile inNameU).length = n := ⟨_, rfl⟩
        rw [hn] at hf
        have hnle : n ≤ s.size - pos := by
          rw [← hn]
          have := (List.takeWhile_sublist (p := inNameU) (l := s.data.toList.drop pos)).length_le
          rwa [List.length_drop, HL.out] at this
        have hn1 : 1 ≤ n := by rw [← hn, HD.out]; exact tw_len _ (inName_of_letter hl)
        obtain ⟨t, ht⟩ : ∃ t, bs ((s.data.toList.drop pos).take n) = t := ⟨_, rfl⟩
        obtain ⟨m, hm⟩ : ∃ m, pos + n = m := ⟨_, rfl⟩
        have HK := Lib.hid hk
        have HN := Lib.hid hn
        have HM := Lib.hid hm
        have hext : s.extract pos m = t := by rw [← hm, bs_ext, ← ht]; congr 2; omega
        have HEX := Lib.hid hext
        have HT := Lib.hid ht
        have hpm : pos < m := by omega
        have hpm2 : pos ≤ m := by omega
        have hms : m ≤ s.size := by omega
        by_cases h12 : n ≤ 12
        · rw [if_pos h12] at hf
          obtain ⟨hat, _, _, _⟩ := HA.out.word hf
          have HAT := Lib.hid hat
          have hmd : ((m : Int) - (pos : Int)) = (n : Int) := by omega
          have hmd2 : decide (12 < (m : Int) - (pos : Int)) = false := by rw [hmd]; simp; omega
          clear hk hl hbl hf hn hext ht hat hHEAD hm hmd
          go_wp2_with fail
          refine (class_is _ (s[pos]'hlt).toNat_lt _ HK.out _).mono ?_
          rintro e w1 ⟨rfl, rfl⟩
          go_wp2_with fail
          refine (end_name s pos hlt hs HK.out _).mono ?_
          rintro e w1 ⟨rfl, rfl⟩
          rw [HN.out, HM.out]
          have hext := HEX.out
          obtain ⟨W3, hW3⟩ : ∃ W3, W3 = (w1.alloc (Obj.cells #[Value.int .i64 1, Value.string t, Value.int .i64 0, Value.int .i64 ↑pos] 30)).alloc (Obj.cells #[Value.int .i64 1, Value.string t, Value.int .i64 0, Value.int .i64 ↑pos] 30) := ⟨_, rfl⟩
          have HNew : Blk W3 (w1.heap.size + 1) 30 #[Value.int .i64 1, Value.string t, Value.int .i64 0, Value.int .i64 ↑pos] := by
            rw [hW3]
            have := Blk.made (w1.alloc (Obj.cells #[Value.int .i64 1, Value.string t, Value.int .i64 0, Value.int .i64 ↑pos] 30)) 30 #[Value.int .i64 1, Value.string t, Value.int .i64 0, Value.int .i64 ↑pos]
            simpa [go_sem] using this
          have hown3 := (hown.alloc (Obj.cells #[Value.int .i64 1, Value.string t, Value.int .i64 0, Value.int .i64 ↑pos] 30)).alloc (Obj.cells #[Value.int .i64 1, Value.string t, Value.int .i64 0, Value.int .i64 ↑pos] 30)
          rw [← hW3] at hown3
          have hB3 : Below w.heap.size w W3 := by
            rw [hW3]
            exact (hb.alloc hb.size _).alloc (by simp [go_sem]; exact Nat.le_succ_of_le hb.size) _
          have hnews : ∀ j u, (TokV.cells ⟨1, t, 0, (pos : Int)⟩)[j]? = some u → W3.cell? ((⟨w1.heap.size + 1, 0, none⟩ : Addr).add j) = some u := by
            intro j u hu
            rw [addr_add, Nat.zero_add, HNew.cell]
            simpa [TokV.cells] using hu
          have HW3 := Lib.hid hW3
          have HNW := Lib.hid hnews
          clear hW3 hnews
          go_wp2_with (at_builtin; rw [← HW3.out]; refine wpList_append_own W3 rfl (.tmp 73) (.tmp 75) _ rfl w.heap.size 30 i0 _ 4 40 Tryd.underlying23 hi0 hz0 hz1 hz2 rfl (by omega) _ acc.length _ rfl hown3 ⟨w1.heap.size + 1, 0, none⟩ 1 1 (TokV.cells ⟨1, t, 0, (pos : Int)⟩) rfl rfl HNW.out (by simp [TokV.cells, Value.oneCell']) (by unfold maxLen; omega) (by omega) hB3.size ?_; intro v4 w4 hown4 hg4 _)
          have hB4 : Below w.heap.size w w4 := below_gb hB3 hg4 hB3.size (fun i hi => (HLOW.out i hi).1)
          have hown5 : w4.ownsRow w.heap.size 30 4 v4 (acc ++ [(⟨1, (s.data.toList.drop pos).take n, 0, pos⟩ : Tok)]).length (toksV (tsV (acc ++ [(⟨1, (s.data.toList.drop pos).take n, 0, pos⟩ : Tok)]))) := by
            rw [tsV_snoc, toksV_snoc, List.length_append]
            show w4.ownsRow w.heap.size 30 4 v4 (acc.length + 1) (toksV (tsV acc) ++ TokV.cells ⟨1, bs ((s.data.toList.drop pos).take n), 0, (pos : Int)⟩)
            rw [HT.out]
            exact hown4
          go_roundw
          case rel => exact ⟨m, _, rfl, (by rw [← HM.out]; exact HAT), hown5, hB4⟩
          case measure => simp [intOf]; omega
        · rw [if_neg h12] at hf
          have HX := Lib.hid (HA.out.not ⟨fun c r h => by rw [HD.out] at h; injection h with h1 _; rw [← h1]; exact hbl⟩ (by rw [HL.out]; exact hlt) hf)
          have hmd : ((m : Int) - (pos : Int)) = (n : Int) := by omega
          have hmd2 : decide (12 < (m : Int) - (pos : Int)) = true := by rw [hmd]; simp; omega
          clear hk hl hbl hf hn hext ht hHEAD hm hmd
          go_wp2_with fail
          refine (class_is _ (s[pos]'hlt).toNat_lt _ HK.out _).mono ?_
          rintro e w1 ⟨rfl, rfl⟩
          go_wp2_with fail
          refine (end_name s pos hlt hs HK.out _).mono ?_
          rintro e w1 ⟨rfl, rfl⟩
          rw [HN.out, HM.out]
          have hext := HEX.out
          go_wp2_with fail
          refine bodyPost_ret (v := .tuple #[.slice none 0 0, .int .i64 3]) (by simp [results, Tryd.results11, go_sem]) rfl ?_
          unfold WordsPost
          rw [HX.out]
          exact ⟨rfl, hb.alloc hb.size _⟩
      · -- a number
        have hf := fp_num HD.out hl hd
        obtain ⟨n, hn⟩ : ∃ n, ((s.data.toList.drop pos).takeWhile digitU).length = n := ⟨_, rfl⟩
        have hnle : n ≤ s.size - pos := by
          rw [← hn]
          have := (List.takeWhile_sublist (p := digitU) (l := s.data.toList.drop pos)).length_le
          rwa [List.length_drop, HL.out] at this
        have hn1 : 1 ≤ n := by rw [← hn, HD.out]; exact tw_len _ hd
        obtain ⟨t, ht⟩ : ∃ t, bs ((s.data.toList.drop pos).take n) = t := ⟨_, rfl⟩
        have htd : t.data.toList = (s.data.toList.drop pos).takeWhile digitU := by rw [← ht, ← hn, tw_take]; simp [bs]
        have hts : t.size = n := by rw [size_len, htd, hn]
        obtain ⟨m, hm⟩ : ∃ m, pos + n = m := ⟨_, rfl⟩
        have hdw : (s.data.toList.drop pos).dropWhile digitU = s.data.toList.drop m := by rw [← tw_drop, hn, List.drop_drop, hm]
        have hall : ∀ c ∈ t.data.toList, digitU c = true := by
          rw [htd]
          exact fun b hb => (List.all_eq_true.1 (List.all_takeWhile (l := s.data.toList.drop pos) (p := digitU))) b hb
        have HNUM := Lib.hid (number_any t (by omega) (by omega) hall)
        have HDWH := Lib.hid (fun c r (h : s.data.toList.drop m = c :: r) => dw_head (P := digitU) (s.data.toList.drop pos) c r (by rw [hdw]; exact h))
        rw [numOk_good, ← htd, hdw, htd, hn, ← htd] at hf
        obtain ⟨V, hV⟩ : ∃ V, (numV t.data.toList : Int) = V := ⟨_, rfl⟩
        have hV0 : 0 ≤ V := by omega
        rw [hV] at hf
        have HK := Lib.hid hk
        have HN := Lib.hid hn
        have HM := Lib.hid hm
        have hext : s.extract pos m = t := by rw [← hm, bs_ext, ← ht]; congr 2; omega
        have HEX := Lib.hid hext
        have HT := Lib.hid ht
        have HV := Lib.hid hV
        have HFP := Lib.hid hf
        have hpm : pos < m := by omega
        have hpm2 : pos ≤ m := by omega
        have hms : m ≤ s.size := by omega
        have hfresh : Fresh s.data.toList pos := ⟨fun c r h => by rw [HD.out] at h; injection h with h1 _; rw [← h1]; exact hbl⟩
        have HFR := Lib.hid hfresh
        clear hk hl hd hbl hf hn hext ht hHEAD hm hts htd hdw hall hV hfresh
        cases hgood : numGood t.data.toList
        · have hE : numE t.data.toList = -1 := by unfold numE; rw [hgood]; rfl
          have hf := HFP.out
          rw [hgood] at hf
          have HX := Lib.hid (HA.out.not HFR.out (by rw [HL.out]; exact hlt) hf)
          have HE := Lib.hid hE
          clear hE hf hgood
          go_wp2_with fail
          refine (class_is _ (s[pos]'hlt).toNat_lt _ HK.out _).mono ?_
          rintro e w1 ⟨rfl, rfl⟩
          go_wp2_with fail
          refine (end_digit s pos hlt hs HK.out _).mono ?_
          rintro e w1 ⟨rfl, rfl⟩
          rw [HN.out, HM.out]
          have hext := HEX.out
          go_wp2_with fail
          refine (HNUM.out _).mono ?_
          rintro e w2 ⟨rfl, rfl⟩
          rw [HE.out]
          go_wp2_with fail
          refine bodyPost_ret (v := .tuple #[.slice none 0 0, .int .i64 3]) (by simp [results, Tryd.results11, go_sem]) rfl ?_
          unfold WordsPost
          rw [HX.out]
          exact ⟨rfl, hb.alloc hb.size _⟩
        · have hE : numE t.data.toList = V := by unfold numE; rw [hgood]; exact HV.out
          have hf := HFP.out
          rw [hgood, Bool.true_and] at hf
          have HE := Lib.hid hE
          have HF2 := Lib.hid hf
          clear hE hf hgood
          by_cases hmlt : m < s.size
          · have HDM := Lib.hid (drop_at s m hmlt)
            have HNM := Lib.hid (class_name (s[m]'hmlt)).1
            have HNG := Lib.hid (class_name (s[m]'hmlt)).2.1
            have hbe : behindP (s.data.toList.drop m) = !inNameU (s[m]'hmlt) := by rw [HDM.out]; rfl
            have HBE := Lib.hid hbe
            clear hbe
            rcases class_cases (s[m]'hmlt) with ⟨h, _⟩ | ⟨h, _⟩ | ⟨h, _⟩ | ⟨h, _⟩ | ⟨h, _⟩ | ⟨h, _⟩
            · have HI := Lib.hid h
              have hf := HF2.out
              rw [HBE.out, HNM.out, h] at hf
              have HX := Lib.hid (HA.out.not HFR.out (by rw [HL.out]; exact hlt) hf)
              clear h hf
              go_wp2_with fail
              refine (class_is _ (s[pos]'hlt).toNat_lt _ HK.out _).mono ?_
              rintro e w1 ⟨rfl, rfl⟩
              go_wp2_with fail
              refine (end_digit s pos hlt hs HK.out _).mono ?_
              rintro e w1 ⟨rfl, rfl⟩
              rw [HN.out, HM.out]
              have hext := HEX.out
              go_wp2_with fail
              refine (HNUM.out _).mono ?_
              rintro e w2 ⟨rfl, hw2⟩
              cases hw2
              rw [HE.out]
              go_wp2_with fail
              refine (class_is _ (s[m]'hmlt).toNat_lt _ HI.out _).mono ?_
              rintro e w3 ⟨rfl, hw3⟩
              cases hw3
              go_wp2_with fail
              refine bodyPost_ret (v := .tuple #[.slice none 0 0, .int .i64 3]) (by simp [results, Tryd.results11, go_sem]) rfl ?_
              unfold WordsPost
              rw [HX.out]
              exact ⟨rfl, hb.alloc hb.size _⟩
            · exfalso
              have h1 := HDWH.out _ _ HDM.out
              rw [HNG.out, h] at h1
              exact absurd h1 (by decide)
            · have HI := Lib.hid h
              have hf := HF2.out
              rw [HBE.out, HNM.out, h] at hf
              have HX := Lib.hid (HA.out.not HFR.out (by rw [HL.out]; exact hlt) hf)
              clear h hf
              go_wp2_with fail
              refine (class_is _ (s[pos]'hlt).toNat_lt _ HK.out _).mono ?_
              rintro e w1 ⟨rfl, rfl⟩
              go_wp2_with fail
              refine (end_digit s pos hlt hs HK.out _).mono ?_
              rintro e w1 ⟨rfl, rfl⟩
              rw [HN.out, HM.out]
              have hext := HEX.out
              go_wp2_with fail
              refine (HNUM.out _).mono ?_
              rintro e w2 ⟨rfl, hw2⟩
              cases hw2
              rw [HE.out]
              go_wp2_with fail
              refine (class_is _ (s[m]'hmlt).toNat_lt _ HI.out _).mono ?_
              rintro e w3 ⟨rfl, hw3⟩
              cases hw3
              go_wp2_with fail
              refine bodyPost_ret (v := .tuple #[.slice none 0 0, .int .i64 3]) (by simp [results, Tryd.results11, go_sem]) rfl ?_
              unfold WordsPost
              rw [HX.out]
              exact ⟨rfl, hb.alloc hb.size _⟩
            · have HI := Lib.hid h
              have hf := HF2.out
              rw [HBE.out, HNM.out, h] at hf
              obtain ⟨hat, _, _, _⟩ := HA.out.word (hf.trans (if_pos rfl))
              have HAT := Lib.hid hat
              clear h hf hat
              go_wp2_with fail
              refine (class_is _ (s[pos]'hlt).toNat_lt _ HK.out _).mono ?_
              rintro e w1 ⟨rfl, rfl⟩
              go_wp2_with fail
              refine (end_digit s pos hlt hs HK.out _).mono ?_
              rintro e w1 ⟨rfl, rfl⟩
              rw [HN.out, HM.out]
              have hext := HEX.out
              go_wp2_with fail
              refine (HNUM.out _).mono ?_
              rintro e w2 ⟨rfl, hw2⟩
              cases hw2
              rw [HE.out]
              go_wp2_with fail
              refine (class_is _ (s[m]'hmlt).toNat_lt _ HI.out _).mono ?_
              rintro e w3 ⟨rfl, hw3⟩
              cases hw3
              obtain ⟨W3, hW3⟩ : ∃ W3, W3 = (w1.alloc (Obj.cells #[Value.int .i64 2, Value.string t, Value.int .i64 V, Value.int .i64 ↑pos] 30)).alloc (Obj.cells #[Value.int .i64 2, Value.string t, Value.int .i64 V, Value.int .i64 ↑pos] 30) := ⟨_, rfl⟩
              have HNew : Blk W3 (w1.heap.size + 1) 30 #[Value.int .i64 2, Value.string t, Value.int .i64 V, Value.int .i64 ↑pos] := by
                rw [hW3]
                have := Blk.made (w1.alloc (Obj.cells #[Value.int .i64 2, Value.string t, Value.int .i64 V, Value.int .i64 ↑pos] 30)) 30 #[Value.int .i64 2, Value.string t, Value.int .i64 V, Value.int .i64 ↑pos]
                simpa [go_sem] using this
              have hown3 := (hown.alloc (Obj.cells #[Value.int .i64 2, Value.string t, Value.int .i64 V, Value.int .i64 ↑pos] 30)).alloc (Obj.cells #[Value.int .i64 2, Value.string t, Value.int .i64 V, Value.int .i64 ↑pos] 30)
              rw [← hW3] at hown3
              have hB3 : Below w.heap.size w W3 := by
                rw [hW3]
                exact (hb.alloc hb.size _).alloc (by simp [go_sem]; exact Nat.le_succ_of_le hb.size) _
              have hnews : ∀ j u, (TokV.cells ⟨2, t, V, (pos : Int)⟩)[j]? = some u → W3.cell? ((⟨w1.heap.size + 1, 0, none⟩ : Addr).add j) = some u := by
                intro j u hu
                rw [addr_add, Nat.zero_add, HNew.cell]
                simpa [TokV.cells] using hu
              have HW3 := Lib.hid hW3
              have HNW := Lib.hid hnews
              clear hW3 hnews
              go_wp2_with (at_builtin; rw [← HW3.out]; refine wpList_append_own W3 rfl (.tmp 73) (.tmp 75) _ rfl w.heap.size 30 i0 _ 4 40 Tryd.underlying23 hi0 hz0 hz1 hz2 rfl (by omega) _ acc.length _ rfl hown3 ⟨w1.heap.size + 1, 0, none⟩ 1 1 (TokV.cells ⟨2, t, V, (pos : Int)⟩) rfl rfl HNW.out (by simp [TokV.cells, Value.oneCell']) (by unfold maxLen; omega) (by omega) hB3.size ?_; intro v4 w4 hown4 hg4 _)
              have hB4 : Below w.heap.size w w4 := below_gb hB3 hg4 hB3.size (fun i hi => (HLOW.out i hi).1)
              have hown5 : w4.ownsRow w.heap.size 30 4 v4 (acc ++ [(⟨2, (s.data.toList.drop pos).take n, V, pos⟩ : Tok)]).length (toksV (tsV (acc ++ [(⟨2, (s.data.toList.drop pos).take n, V, pos⟩ : Tok)]))) := by
                rw [tsV_snoc, toksV_snoc, List.length_append]
                show w4.ownsRow w.heap.size 30 4 v4 (acc.length + 1) (toksV (tsV acc) ++ TokV.cells ⟨2, bs ((s.data.toList.drop pos).take n), V, (pos : Int)⟩)
                rw [HT.out]
                exact hown4
              go_roundw
              case rel => exact ⟨m, _, rfl, (by rw [← HM.out]; exact HAT), hown5, hB4⟩
              case measure => simp [intOf]; omega
            · have HI := Lib.hid h
              have hf := HF2.out
              rw [HBE.out, HNM.out, h] at hf
              obtain ⟨hat, _, _, _⟩ := HA.out.word (hf.trans (if_pos rfl))
              have HAT := Lib.hid hat
              clear h hf hat
              go_wp2_with fail
              refine (class_is _ (s[pos]'hlt).toNat_lt _ HK.out _).mono ?_
              rintro e w1 ⟨rfl, rfl⟩
              go_wp2_with fail
              refine (end_digit s pos hlt hs HK.out _).mono ?_
              rintro e w1 ⟨rfl, rfl⟩
              rw [HN.out, HM.out]
              have hext := HEX.out
              go_wp2_with fail
              refine (HNUM.out _).mono ?_
              rintro e w2 ⟨rfl, hw2⟩
              cases hw2
              rw [HE.out]
              go_wp2_with fail
              refine (class_is _ (s[m]'hmlt).toNat_lt _ HI.out _).mono ?_
              rintro e w3 ⟨rfl, hw3⟩
              cases hw3
              obtain ⟨W3, hW3⟩ : ∃ W3, W3 = (w1.alloc (Obj.cells #[Value.int .i64 2, Value.string t, Value.int .i64 V, Value.int .i64 ↑pos] 30)).alloc (Obj.cells #[Value.int .i64 2, Value.string t, Value.int .i64 V, Value.int .i64 ↑pos] 30) := ⟨_, rfl⟩
              have HNew : Blk W3 (w1.heap.size + 1) 30 #[Value.int .i64 2, Value.string t, Value.int .i64 V, Value.int .i64 ↑pos] := by
                rw [hW3]
                have := Blk.made (w1.alloc (Obj.cells #[Value.int .i64 2, Value.string t, Value.int .i64 V, Value.int .i64 ↑pos] 30)) 30 #[Value.int .i64 2, Value.string t, Value.int .i64 V, Value.int .i64 ↑pos]
                simpa [go_sem] using this
              have hown3 := (hown.alloc (Obj.cells #[Value.int .i64 2, Value.string t, Value.int .i64 V, Value.int .i64 ↑pos] 30)).alloc (Obj.cells #[Value.int .i64 2, Value.string t, Value.int .i64 V, Value.int .i64 ↑pos] 30)
              rw [← hW3] at hown3
              have hB3 : Below w.heap.size w W3 := by
                rw [hW3]
                exact (hb.alloc hb.size _).alloc (by simp [go_sem]; exact Nat.le_succ_of_le hb.size) _
              have hnews : ∀ j u, (TokV.cells ⟨2, t, V, (pos : Int)⟩)[j]? = some u → W3.cell? ((⟨w1.heap.size + 1, 0, none⟩ : Addr).add j) = some u := by
                intro j u hu
                rw [addr_add, Nat.zero_add, HNew.cell]
                simpa [TokV.cells] using hu
              have HW3 := Lib.hid hW3
              have HNW := Lib.hid hnews
              clear hW3 hnews
              go_wp2_with (at_builtin; rw [← HW3.out]; refine wpList_append_own W3 rfl (.tmp 73) (.tmp 75) _ rfl w.heap.size 30 i0 _ 4 40 Tryd.underlying23 hi0 hz0 hz1 hz2 rfl (by omega) _ acc.length _ rfl hown3 ⟨w1.heap.size + 1, 0, none⟩ 1 1 (TokV.cells ⟨2, t, V, (pos : Int)⟩) rfl rfl HNW.out (by simp [TokV.cells, Value.oneCell']) (by unfold maxLen; omega) (by omega) hB3.size ?_; intro v4 w4 hown4 hg4 _)
              have hB4 : Below w.heap.size w w4 := below_gb hB3 hg4 hB3.size (fun i hi => (HLOW.out i hi).1)
              have hown5 : w4.ownsRow w.heap.size 30 4 v4 (acc ++ [(⟨2, (s.data.toList.drop pos).take n, V, pos⟩ : Tok)]).length (toksV (tsV (acc ++ [(⟨2, (s.data.toList.drop pos).take n, V, pos⟩ : Tok)]))) := by
                rw [tsV_snoc, toksV_snoc, List.length_append]
                show w4.ownsRow w.heap.size 30 4 v4 (acc.length + 1) (toksV (tsV acc) ++ TokV.cells ⟨2, bs ((s.data.toList.drop pos).take n), V, (pos : Int)⟩)
                rw [HT.out]
                exact hown4
              go_roundw
              case rel => exact ⟨m, _, rfl, (by rw [← HM.out]; exact HAT), hown5, hB4⟩
              case measure => simp [intOf]; omega
            · have HI := Lib.hid h
              have hf := HF2.out
              rw [HBE.out, HNM.out, h] at hf
              obtain ⟨hat, _, _, _⟩ := HA.out.word (hf.trans (if_pos rfl))
              have HAT := Lib.hid hat
              clear h hf hat
              go_wp2_with fail
              refine (class_is _ (s[pos]'hlt).toNat_lt _ HK.out _).mono ?_
              rintro e w1 ⟨rfl, rfl⟩
              go_wp2_with fail
              refine (end_digit s pos hlt hs HK.out _).mono ?_
              rintro e w1 ⟨rfl, rfl⟩
              rw [HN.out, HM.out]
              have hext := HEX.out
              go_wp2_with fail
              refine (HNUM.out _).mono ?_
              rintro e w2 ⟨rfl, hw2⟩
              cases hw2
              rw [HE.out]
              go_wp2_with fail
              refine (class_is _ (s[m]'hmlt).toNat_lt _ HI.out _).mono ?_
              rintro e w3 ⟨rfl, hw3⟩
              cases hw3
              obtain ⟨W3, hW3⟩ : ∃ W3, W3 = (w1.alloc (Obj.cells #[Value.int .i64 2, Value.string t, Value.int .i64 V, Value.int .i64 ↑pos] 30)).alloc (Obj.cells #[Value.int .i64 2, Value.string t, Value.int .i64 V, Value.int .i64 ↑pos] 30) := ⟨_, rfl⟩
              have HNew : Blk W3 (w1.heap.size + 1) 30 #[Value.int .i64 2, Value.string t, Value.int .i64 V, Value.int .i64 ↑pos] := by
                rw [hW3]
                have := Blk.made (w1.alloc (Obj.cells #[Value.int .i64 2, Value.string t, Value.int .i64 V, Value.int .i64 ↑pos] 30)) 30 #[Value.int .i64 2, Value.string t, Value.int .i64 V, Value.int .i64 ↑pos]
                simpa [go_sem] using this
              have hown3 := (hown.alloc (Obj.cells #[Value.int .i64 2, Value.string t, Value.int .i64 V, Value.int .i64 ↑pos] 30)).alloc (Obj.cells #[Value.int .i64 2, Value.string t, Value.int .i64 V, Value.int .i64 ↑pos] 30)
              rw [← hW3] at hown3
              have hB3 : Below w.heap.size w W3 := by
                rw [hW3]
                exact (hb.alloc hb.size _).alloc (by simp [go_sem]; exact Nat.le_succ_of_le hb.size) _
              have hnews : ∀ j u, (TokV.cells ⟨2, t, V, (pos : Int)⟩)[j]? = some u → W3.cell? ((⟨w1.heap.size + 1, 0, none⟩ : Addr).add j) = some u := by
                intro j u hu
                rw [addr_add, Nat.zero_add, HNew.cell]
                simpa [TokV.cells] using hu
              have HW3 := Lib.hid hW3
              have HNW := Lib.hid hnews
              clear hW3 hnews
              go_wp2_with (at_builtin; rw [← HW3.out]; refine wpList_append_own W3 rfl (.tmp 73) (.tmp 75) _ rfl w.heap.size 30 i0 _ 4 40 Tryd.underlying23 hi0 hz0 hz1 hz2 rfl (by omega) _ acc.length _ rfl hown3 ⟨w1.heap.size + 1, 0, none⟩ 1 1 (TokV.cells ⟨2, t, V, (pos : Int)⟩) rfl rfl HNW.out (by simp [TokV.cells, Value.oneCell']) (by unfold maxLen; omega) (by omega) hB3.size ?_; intro v4 w4 hown4 hg4 _)
              have hB4 : Below w.heap.size w w4 := below_gb hB3 hg4 hB3.size (fun i hi => (HLOW.out i hi).1)
              have hown5 : w4.ownsRow w.heap.size 30 4 v4 (acc ++ [(⟨2, (s.data.toList.drop pos).take n, V, pos⟩ : Tok)]).length (toksV (tsV (acc ++ [(⟨2, (s.data.toList.drop pos).take n, V, pos⟩ : Tok)]))) := by
                rw [tsV_snoc, toksV_snoc, List.length_append]
                show w4.ownsRow w.heap.size 30 4 v4 (acc.length + 1) (toksV (tsV acc) ++ TokV.cells ⟨2, bs ((s.data.toList.drop pos).take n), V, (pos : Int)⟩)
                rw [HT.out]
                exact hown4
              go_roundw
              case rel => exact ⟨m, _, rfl, (by rw [← HM.out]; exact HAT), hown5, hB4⟩
              case measure => simp [intOf]; omega
          · have hf := HF2.out
            rw [show s.data.toList.drop m = [] from List.drop_eq_nil_of_le (by rw [HL.out]; omega)] at hf
            obtain ⟨hat, _, _, _⟩ := HA.out.word (hf.trans (if_pos rfl))
            have HAT := Lib.hid hat
            clear hf hat
            go_wp2_with fail
            refine (class_is _ (s[pos]'hlt).toNat_lt _ HK.out _).mono ?_
            rintro e w1 ⟨rfl, rfl⟩
            go_wp2_with fail
            refine (end_digit s pos hlt hs HK.out _).mono ?_
            rintro e w1 ⟨rfl, rfl⟩
            rw [HN.out, HM.out]
            have hext := HEX.out
            go_wp2_with fail
            refine (HNUM.out _).mono ?_
            rintro e w2 ⟨rfl, hw2⟩
            cases hw2
            rw [HE.out]
            obtain ⟨W3, hW3⟩ : ∃ W3, W3 = (w1.alloc (Obj.cells #[Value.int .i64 2, Value.string t, Value.int .i64 V, Value.int .i64 ↑pos] 30)).alloc (Obj.cells #[Value.int .i64 2, Value.string t, Value.int .i64 V, Value.int .i64 ↑pos] 30) := ⟨_, rfl⟩
            have HNew : Blk W3 (w1.heap.size + 1) 30 #[Value.int .i64 2, Value.string t, Value.int .i64 V, Value.int .i64 ↑pos] := by
              rw [hW3]
              have := Blk.made (w1.alloc (Obj.cells #[Value.int .i64 2, Value.string t, Value.int .i64 V, Value.int .i64 ↑pos] 30)) 30 #[Value.int .i64 2, Value.string t, Value.int .i64 V, Value.int .i64 ↑pos]
              simpa [go_sem] using this
            have hown3 := (hown.alloc (Obj.cells #[Value.int .i64 2, Value.string t, Value.int .i64 V, Value.int .i64 ↑pos] 30)).alloc (Obj.cells #[Value.int .i64 2, Value.string t, Value.int .i64 V, Value.int .i64 ↑pos] 30)
            rw [← hW3] at hown3
            have hB3 : Below w.heap.size w W3 := by
              rw [hW3]
              exact (hb.alloc hb.size _).alloc (by simp [go_sem]; exact Nat.le_succ_of_le hb.size) _
            have hnews : ∀ j u, (TokV.cells ⟨2, t, V, (pos : Int)⟩)[j]? = some u → W3.cell? ((⟨w1.heap.size + 1, 0, none⟩ : Addr).add j) = some u := by
              intro j u hu
              rw [addr_add, Nat.zero_add, HNew.cell]
              simpa [TokV.cells] using hu
            have HW3 := Lib.hid hW3
            have HNW := Lib.hid hnews
            clear hW3 hnews
            go_wp2_with (at_builtin; rw [← HW3.out]; refine wpList_append_own W3 rfl (.tmp 73) (.tmp 75) _ rfl w.heap.size 30 i0 _ 4 40 Tryd.underlying23 hi0 hz0 hz1 hz2 rfl (by omega) _ acc.length _ rfl hown3 ⟨w1.heap.size + 1, 0, none⟩ 1 1 (TokV.cells ⟨2, t, V, (pos : Int)⟩) rfl rfl HNW.out (by simp [TokV.cells, Value.oneCell']) (by unfold maxLen; omega) (by omega) hB3.size ?_; intro v4 w4 hown4 hg4 _)
            have hB4 : Below w.heap.size w w4 := below_gb hB3 hg4 hB3.size (fun i hi => (HLOW.out i hi).1)
            have hown5 : w4.ownsRow w.heap.size 30 4 v4 (acc ++ [(⟨2, (s.data.toList.drop pos).take n, V, pos⟩ : Tok)]).length (toksV (tsV (acc ++ [(⟨2, (s.data.toList.drop pos).take n, V, pos⟩ : Tok)]))) := by
              rw [tsV_snoc, toksV_snoc, List.length_append]
              show w4.ownsRow w.heap.size 30 4 v4 (acc.length + 1) (toksV (tsV acc) ++ TokV.cells ⟨2, bs ((s.data.toList.drop pos).take n), V, (pos : Int)⟩)
              rw [HT.out]
              exact hown4
            go_roundw
            case rel => exact ⟨m, _, rfl, (by rw [← HM.out]; exact HAT), hown5, hB4⟩
            case measure => simp [intOf]; omega
      · have hf := fp_none HD.out hl hd hg
        have HX := Lib.hid (HA.out.not ⟨fun c r h => by rw [HD.out] at h; injection h with h1 _; rw [← h1]; exact hbl⟩ (by rw [HL.out]; exact hlt) hf)
        have HK := Lib.hid hk
        clear hk hl hd hg hbl hf hHEAD
        go_wp2_with fail
        refine (class_is _ (s[pos]'hlt).toNat_lt _ HK.out _).mono ?_
        rintro e w1 ⟨rfl, rfl⟩
        go_wp2_with fail
        refine bodyPost_ret (v := .tuple #[.slice none 0 0, .int .i64 3]) (by simp [results, Tryd.results11, go_sem]) rfl ?_
        unfold WordsPost
        rw [HX.out]
        exact ⟨rfl, hb⟩
      · have HX := Lib.hid (HA.out.blank HD.out hbl)
        have HK := Lib.hid hk
        clear hk hbl hHEAD
        go_wp2_with fail
        refine (class_is _ (s[pos]'hlt).toNat_lt _ HK.out _).mono ?_
        rintro e w1 ⟨rfl, rfl⟩
        go_wp2_with fail
        go_roundw
        case rel => exact ⟨pos + 1, acc, by go_num, HX, hown, hb⟩
        case measure => simp [intOf]; omega
      · -- a sign
        have hf := fp_sign HD.out hl hd hg
        obtain ⟨n, hn⟩ : ∃ n, signP (s.data.toList.drop pos) = n := ⟨_, rfl⟩
        rw [hn] at hf
        obtain ⟨hat, hn1, hn2, hn3⟩ := HA.out.word hf
        rw [HL.out] at hn3
        obtain ⟨t, ht⟩ : ∃ t, bs ((s.data.toList.drop pos).take n) = t := ⟨_, rfl⟩
        obtain ⟨m, hm⟩ : ∃ m, pos + n = m := ⟨_, rfl⟩
        have HK := Lib.hid hk
        have HN := Lib.hid hn
        have HM := Lib.hid hm
        have hext : s.extract pos m = t := by rw [← hm, bs_ext, ← ht]; congr 2; omega
        have HEX := Lib.hid hext
        have HAT := Lib.hid hat
        have HT := Lib.hid ht
        have hpm : pos < m := by omega
        have hpm2 : pos ≤ m := by omega
        rw [hm] at hn3
        clear hk hl hd hg hbl hf hn hn2 hext ht hat hHEAD hm
        go_wp2_with fail
        refine (class_is _ (s[pos]'hlt).toNat_lt _ HK.out _).mono ?_
        rintro e w1 ⟨rfl, rfl⟩
        go_wp2_with fail
        refine (end_sign s pos hlt hs HK.out _).mono ?_
        rintro e w1 ⟨rfl, rfl⟩
        rw [HN.out, HM.out]
        have hext := HEX.out
        obtain ⟨W3, hW3⟩ : ∃ W3, W3 = (w1.alloc (Obj.cells #[Value.int .i64 3, Value.string t, Value.int .i64 0, Value.int .i64 ↑pos] 30)).alloc (Obj.cells #[Value.int .i64 3, Value.string t, Value.int .i64 0, Value.int .i64 ↑pos] 30) := ⟨_, rfl⟩
        have HNew : Blk W3 (w1.heap.size + 1) 30 #[Value.int .i64 3, Value.string t, Value.int .i64 0, Value.int .i64 ↑pos] := by
          rw [hW3]
          have := Blk.made (w1.alloc (Obj.cells #[Value.int .i64 3, Value.string t, Value.int .i64 0, Value.int .i64 ↑pos] 30)) 30 #[Value.int .i64 3, Value.string t, Value.int .i64 0, Value.int .i64 ↑pos]
          simpa [go_sem] using this
        have hown3 := (hown.alloc (Obj.cells #[Value.int .i64 3, Value.string t, Value.int .i64 0, Value.int .i64 ↑pos] 30)).alloc (Obj.cells #[Value.int .i64 3, Value.string t, Value.int .i64 0, Value.int .i64 ↑pos] 30)
        rw [← hW3] at hown3
        have hB3 : Below w.heap.size w W3 := by
          rw [hW3]
          exact (hb.alloc hb.size _).alloc (by simp [go_sem]; exact Nat.le_succ_of_le hb.size) _
        have hnews : ∀ j u, (TokV.cells ⟨3, t, 0, (pos : Int)⟩)[j]? = some u → W3.cell? ((⟨w1.heap.size + 1, 0, none⟩ : Addr).add j) = some u := by
          intro j u hu
          rw [addr_add, Nat.zero_add, HNew.cell]
          simpa [TokV.cells] using hu
        have HW3 := Lib.hid hW3
        have HNW := Lib.hid hnews
        clear hW3 hnews
        go_wp2_with (at_builtin; rw [← HW3.out]; refine wpList_append_own W3 rfl (.tmp 73) (.tmp 75) _ rfl w.heap.size 30 i0 _ 4 40 Tryd.underlying23 hi0 hz0 hz1 hz2 rfl (by omega) _ acc.length _ rfl hown3 ⟨w1.heap.size + 1, 0, none⟩ 1 1 (TokV.cells ⟨3, t, 0, (pos : Int)⟩) rfl rfl HNW.out (by simp [TokV.cells, Value.oneCell']) (by unfold maxLen; omega) (by omega) hB3.size ?_; intro v4 w4 hown4 hg4 _)
        have hB4 : Below w.heap.size w w4 := below_gb hB3 hg4 hB3.size (fun i hi => (HLOW.out i hi).1)
        have hown5 : w4.ownsRow w.heap.size 30 4 v4 (acc ++ [(⟨3, (s.data.toList.drop pos).take n, 0, pos⟩ : Tok)]).length (toksV (tsV (acc ++ [(⟨3, (s.data.toList.drop pos).take n, 0, pos⟩ : Tok)]))) := by
          rw [tsV_snoc, toksV_snoc, List.length_append]
          show w4.ownsRow w.heap.size 30 4 v4 (acc.length + 1) (toksV (tsV acc) ++ TokV.cells ⟨3, bs ((s.data.toList.drop pos).take n), 0, (pos : Int)⟩)
          rw [HT.out]
          exact hown4
        go_roundw
        case rel => exact ⟨m, _, rfl, (by rw [← HM.out]; exact HAT), hown5, hB4⟩
        case measure => simp [intOf]; omega
      · have hf := fp_none HD.out hl hd hg
        have HX := Lib.hid (HA.out.not ⟨fun c r h => by rw [HD.out] at h; injection h with h1 _; rw [← h1]; exact hbl⟩ (by rw [HL.out]; exact hlt) hf)
        have HK := Lib.hid hk
        clear hk hl hd hg hbl hf hHEAD
        go_wp2_with fail
        refine (class_is _ (s[pos]'hlt).toNat_lt _ HK.out _).mono ?_
        rintro e w1 ⟨rfl, rfl⟩
        go_wp2_with fail
        refine bodyPost_ret (v := .tuple #[.slice none 0 0, .int .i64 3]) (by simp [results, Tryd.results11, go_sem]) rfl ?_
        unfold WordsPost
        rw [HX.out]
        exact ⟨rfl, hb⟩
    · have HX := Lib.hid (HA.out.done (by rw [HL.out]; exact hlt))
      have hfew := HA.out.few
      go_wp2_with fail
      refine bodyPost_ret (v := .tuple #[.slice p acc.length cap, .int .i64 0]) (by simp [results, Tryd.results11, go_sem]) rfl ?_
      unfold WordsPost
      rw [HX.out]
      exact ⟨p, cap, rfl, hown, hb, by omega⟩
end Go.Proofs.YtplndghcileghaaDoor
