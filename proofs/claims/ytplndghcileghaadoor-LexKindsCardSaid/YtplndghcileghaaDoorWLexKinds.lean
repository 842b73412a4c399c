/-
  LEX: the walk of LexKinds.
-/
import Derived.Test.YtplndghcileghaaDoorRows
import Derived.ProofKit
import Derived.Test.YtplndghcileghaaDoorLexX
import Derived.IntWalk
import Derived.Laws.IdiomStrings
namespace Go.Proofs.YtplndghcileghaaDoor
open Go.ChangeShapes Go.WideShapes Go.ChangeAt Go.RowKit

theorem pow_lt_of {n k : Nat} (hn : 10 ≤ n) (h : n * 10 ^ k ≤ 4294967295) : k + 1 ≤ 9 := by
  apply Classical.byContradiction
  intro hc
  have h1 : 10 ^ 9 ≤ 10 ^ k := Nat.pow_le_pow_right (by decide) (by omega)
  have h2 : 10 * 10 ^ 9 ≤ n * 10 ^ k := Nat.mul_le_mul hn h1
  omega

/-- where the loop of digits stands -/
structure DigAt (x n k : Nat) (S : ByteArray) : Prop where
  le : n * 10 ^ k ≤ 4294967295
  sz : S.size = k + 1
  is : ∃ suf, S.data.toList = UInt8.ofNat (48 + n % 10) :: suf ∧ decP x = decP n ++ suf
theorem dig_str (n : Nat) : (strOfNums [48 + (n : Int) % 10]).data.toList = [UInt8.ofNat (48 + n % 10)] := by
  rw [strOfNums_data]
  show [UInt8.ofNat (48 + (n : Int) % 10).toNat] = _
  rw [show (48 + (n : Int) % 10).toNat = 48 + n % 10 from by omega]
theorem DigAt.step {x n k : Nat} {S : ByteArray} (h : DigAt x n k S) (hn : 9 < n) : DigAt x (n / 10) (k + 1) (strOfNums [48 + ↑(n / 10) % 10] ++ S) := by
  obtain ⟨h1, h2, suf, h3, h4⟩ := h
  refine ⟨?_, by rw [ByteArray.size_append, strOfNums_size, h2]; simp; omega, S.data.toList, ?_, ?_⟩
  · rw [Nat.pow_succ, Nat.mul_comm (10 ^ k), ← Nat.mul_assoc]
    exact Nat.le_trans (Nat.mul_le_mul_right _ (Nat.div_mul_le_self n 10)) h1
  · rw [ByteArray.data_append, Array.toList_append, dig_str]; rfl
  · rw [h4, h3]
    conv => lhs; unfold decP
    rw [if_neg (by omega)]
    simp

theorem conv_one (wx : World) (d : Int) : (convert 47 9 (.slice (some ⟨wx.heap.size, 0, none⟩) 1 1)).run Tryd.prog (wx.alloc (.cells #[.int .u8 d] 5)) = .ok (.string (strOfNums [d])) (wx.alloc (.cells #[.int .u8 d] 5)) := by
  refine run_convert_bytes_arg _ _ _ Tryd.underlying47 Tryd.underlying5 wx.heap.size 0 1 1 [d] rfl (fun i hi => ?_) _ Tryd.underlying9
  obtain rfl : i = 0 := by omega
  rw [(Blk.made wx 5 #[.int .u8 d]).cell]; rfl

set_option maxRecDepth 100000 in
set_option maxHeartbeats 1000000 in
theorem digits_any (x : Nat) (hx : x ≤ 4294967295) (w : World) :
    Calls Tryd.prog 17 #[.int .i64 (x : Int)] w fun e w' => e = .returned (.string (bs (decP x))) ∧ Below w.heap.size w w' := by
  have hcv := conv_one
  have HX := Lib.hid hx
  clear hx
  go_enter Tryd.func17, Tryd.ntmps17
  go_wp2_with fail
  go_loopw [0, 3, 4] (fun N V K wr => ∃ (n k : Nat) (S : ByteArray), N = .int .i64 n ∧ K = .int .i64 k ∧ V = .string S ∧ k ≤ 9 ∧ S.size ≤ 10 ∧ Hid (DigAt x n k S) ∧ Below w.heap.size w wr) (fun _ _ K _ => 12 - (intOf K).toNat)
  case atStart =>
    refine ⟨x, 0, strOfNums [48 + ↑x % 10], rfl, rfl, rfl, by omega, by rw [strOfNums_size]; simp, Lib.hid ⟨by rw [Nat.pow_zero, Nat.mul_one]; exact HX.out, by rw [strOfNums_size]; rfl, [], ?_, by simp⟩, (Below.refl _ w).alloc (Nat.le_refl _) _⟩
    exact dig_str x
  case round =>
    obtain ⟨n, k, S, rfl, rfl, rfl, hk, hS, HD, hb⟩ := hrel
    rename_i wr
    by_cases hn : 9 < n
    · have hk9 := pow_lt_of (by omega) HD.out.le
      have HN := Lib.hid (HD.out.step hn)
      have hsz : ∀ d, (strOfNums [d]).size = 1 := fun d => by rw [strOfNums_size]; rfl
      have hS9 : S.size ≤ 9 := by have := HD.out.sz; omega
      have hn32 : n ≤ 4294967295 := Nat.le_trans (Nat.le_mul_of_pos_right n (Nat.pow_pos (by decide))) HD.out.le
      go_wp2_with fail
      go_roundw
      case rel =>
        refine ⟨n / 10, k + 1, strOfNums [48 + ↑(n / 10) % 10] ++ S, by go_num, by go_num, rfl, by omega, ?_, Lib.hid HN.out, hb.alloc hb.size _⟩
        rw [ByteArray.size_append, strOfNums_size]; simp; omega
      case measure => simp [intOf]; omega
    · have hfin : bs (decP x) = S := by
        obtain ⟨_, _, suf, h1, h2⟩ := HD.out
        rw [h2]
        unfold decP
        rw [if_pos (by omega)]
        show bs (UInt8.ofNat (48 + n) :: suf) = S
        rw [show n = n % 10 from by omega, ← h1, bs_data]
      have HF := Lib.hid hfin
      clear hfin
      go_wp2_with fail
      go_ret
      exact ⟨by rw [HF.out]; rfl, hb⟩


theorem placed_le2 : ∀ (ts : List Tok) (p : Nat) (l : List UInt8), Placed p l ts → ∀ t ∈ ts, t.t.length ≤ l.length
  | [], _, _, _, t, ht => by cases ht
  | u :: ts, p, l, h, t, ht => by
    obtain ⟨b, l', h1, h2, h3, h4, h5⟩ := h
    have hl : l.length = b.length + (u.t.length + l'.length) := by rw [h2]; simp
    rcases List.mem_cons.1 ht with rfl | ht
    · omega
    · have := placed_le2 ts _ l' h5 t ht
      omega

set_option maxRecDepth 100000 in
set_option maxHeartbeats 2000000 in
theorem walkLexKinds (s : ByteArray) (c : Int) (W : World) (hs : s.size ≤ maxLen) (hc : 0 ≤ c ∧ c ≤ 4294967295) :
    Calls Tryd.prog 8 #[.string s, .int .u32 c] W fun e W' => e = .returned (.bool true) ∧ Below W.heap.size W W' := by
  unfold maxLen at hs
  obtain ⟨x, rfl⟩ : ∃ x : Nat, c = (x : Int) := ⟨c.toNat, by omega⟩
  have hx : x ≤ 4294967295 := by omega
  obtain ⟨S, hS⟩ : ∃ S, bs (decP x) = S := ⟨_, rfl⟩
  have hSd : S.data.toList = decP x := by rw [← hS]; simp [bs]
  have hSl : S.size ≤ 10 := by rw [size_len, hSd]; exact dec_len x 9 (by omega)
  have hd1 := fun w => words_any S (by omega) w
  have hne := (dec_head x).1
  rw [hSd, words_digits (decP x) hne (dec_digits x) (dec_head x).2 (by rw [size_len, hSd] at hSl; exact hSl) (by rw [dec_val]; omega) 0, dec_val] at hd1
  have hz : ((⟨#[48]⟩ : ByteArray) ++ S).data.toList = 48 :: decP x := by rw [ByteArray.data_append, Array.toList_append, hSd]; rfl
  have hzs : ((⟨#[48]⟩ : ByteArray) ++ S).size = 1 + S.size := by rw [ByteArray.size_append]; rfl
  have hd2 := fun w => words_any ((⟨#[48]⟩ : ByteArray) ++ S) (by rw [hzs]; omega) w
  rw [hz, words_zero (decP x) hne (dec_digits x) 0] at hd2
  have HD1 := Lib.hid hd1
  have HD2 := Lib.hid hd2
  clear hd1 hd2 hne hz hzs hSd
  have hgd := tokGuard
  go_enter Tryd.func8, Tryd.ntmps8
  go_wp2_with fail
  refine (awake_any W).mono ?_
  rintro e w1 ⟨rfl, hb1⟩
  by_cases hbig : 600 < s.size
  · go_wp2_with fail
    go_ret
    exact ⟨rfl, hb1⟩
  · have h6 : decide (600 < (s.size : Int)) = false := by simp; omega
    cases hw : wordsP 0 s.data.toList with
    | none =>
      have h1 := fun w => words_any s (by omega) w
      rw [hw] at h1
      have H1 := Lib.hid h1
      clear h1 hw
      go_wp2_with fail
      refine (H1.out w1).mono ?_
      rintro e w2 ⟨rfl, hb2⟩
      have hB3 := hb1.trans (hb2.mono hb1.size)
      go_wp2_with fail
      go_loopw [8] (fun i wr => i = .int .i64 0 ∧ wr = w2) (fun _ _ => 0)
      case atStart => exact ⟨rfl, rfl⟩
      case round =>
        obtain ⟨rfl, rfl⟩ := hrel
        go_wp2_with fail
        refine (digits_any x hx _).mono ?_
        rintro e w4 ⟨rfl, hb4⟩
        rw [hS]
        have hB4 := hB3.trans (hb4.mono hB3.size)
        go_wp2_with fail
        refine (HD1.out w4).mono ?_
        rintro e w5 ⟨p5, c5, rfl, ho5, hb5, _⟩
        have hB5 := hB4.trans (hb5.mono hB4.size)
        have ht5 := Toks.of_own ho5
        clear ho5
        obtain ⟨b5, o5, rfl, -, q0, q1, q2, q3⟩ := (show Toks w5 p5 [⟨2, bs (decP x), x, 0⟩] from ht5).at_ 0 (by simp)
        go_wp2_with fail
        refine (HD2.out w5).mono ?_
        rintro e w6 ⟨rfl, hb6⟩
        have hB6 := hB5.trans (hb6.mono hB5.size)
        obtain ⟨b6, o6, hp6, -, r0, r1, r2, r3⟩ := ((show Toks w5 (some ⟨b5, o5, none⟩) [⟨2, bs (decP x), x, 0⟩] from ht5).later hb6).at_ 0 (by simp)
        simp only [Option.some.injEq, Addr.mk.injEq, and_true] at hp6
        obtain ⟨rfl, rfl⟩ := hp6
        have r0 : w6.cell? ⟨b5, o5, none⟩ = some (.int .i64 2) := by simpa using r0
        have r1 : w6.cell? ⟨b5, o5 + 1, none⟩ = some (.string S) := by rw [← hS]; simpa using r1
        have r2 : w6.cell? ⟨b5, o5 + 2, none⟩ = some (.int .i64 (x : Int)) := by simpa using r2
        have r3 : w6.cell? ⟨b5, o5 + 3, none⟩ = some (.int .i64 0) := by simpa using r3
        have heq : ∀ wx, (Op.equalIn 10000 30 (.agg #[.int .i64 2, .string S, .int .i64 x, .int .i64 0]) (.agg #[.int .i64 2, .string S, .int .i64 x, .int .i64 0])).run Tryd.prog wx = .ok true wx := fun wx => by
          have := tokEq ⟨2, S, x, 0⟩ ⟨2, S, x, 0⟩ wx
          rwa [decide_eq_true rfl] at this
        clear q0 q1 q2 q3
        go_wp2_with fail
        go_ret
        exact ⟨rfl, hB6⟩
    | some ts =>
      have hpl := Lib.hid (words_placed 0 _ ts hw)
      have hgood := Lib.hid (words_good 0 _ ts hw)
      have h1 := fun w => words_any s (by omega) w
      rw [hw] at h1
      have H1 := Lib.hid h1
      clear h1 hw
      obtain ⟨n, hn⟩ : ∃ n, ts.length = n := ⟨_, rfl⟩
      have HN := Lib.hid hn
      go_wp2_with fail
      refine (H1.out w1).mono ?_
      rintro e w2 ⟨p, cap, rfl, ho, hb2, hl⟩
      have hB2 := hb1.trans (hb2.mono hb1.size)
      have ht := Toks.of_own ho
      rw [hn] at hl ⊢
      clear ho hn
      go_wp2_with fail
      go_loopw [8] (fun i wr => ∃ k : Nat, i = .int .i64 k ∧ k ≤ n ∧ Below w2.heap.size w2 wr) (fun i _ => n - (intOf i).toNat)
      case atStart => exact ⟨0, rfl, Nat.zero_le _, Below.refl _ _⟩
      case round =>
        obtain ⟨k, rfl, hk, hbr⟩ := hrel
        rename_i wr
        by_cases hlt : k < n
        · have hkt : k < ts.length := by rw [HN.out]; exact hlt
          obtain ⟨b, o, rfl, -, e0, e1, e2, e3⟩ := (ht.later hbr).at_ k (by rw [tsV_length]; exact hkt)
          obtain ⟨t, htk⟩ : ∃ t, ts[k] = t := ⟨_, rfl⟩
          have hv : (tsV ts)[k]'(by rw [tsV_length]; exact hkt) = t.v := by unfold tsV; rw [List.getElem_map, htk]
          have hmem : t ∈ ts := by rw [← htk]; exact List.getElem_mem _
          rw [hv] at e0 e1 e2 e3
          have hG := hgood.out t hmem
          have hT := placed_le2 ts 0 _ hpl.out t hmem
          rw [← size_len] at hT
          obtain ⟨tk, tt, tn, tp⟩ := t
          obtain ⟨T, hTT⟩ : ∃ T, bs tt = T := ⟨_, rfl⟩
          have hTs : T.size ≤ 600 := by rw [← hTT, size_bs]; exact Nat.le_trans hT (by omega)
          have hTd : T.data.toList = tt := by rw [← hTT]; simp [bs]
          have g0 : wr.cell? ⟨b, o + k * 4, none⟩ = some (.int .i64 tk) := e0
          have g1 : wr.cell? ⟨b, o + k * 4 + 1, none⟩ = some (.string T) := by rw [← hTT]; exact e1
          have g2 : wr.cell? ⟨b, o + k * 4 + 2, none⟩ = some (.int .i64 tn) := e2
          have g3 : wr.cell? ⟨b, o + k * 4 + 3, none⟩ = some (.int .i64 (tp : Int)) := e3
          have hone := fun w => words_any T (by omega) w
          have hfa : wordsP 0 tt = some [⟨tk, tt, tn, 0⟩] := first_alone hG 0
          rw [hTd, hfa] at hone
          obtain ⟨-, -, -, hn0, hn1, hn2⟩ := hG
          have hn0 : 0 ≤ tn := hn0
          have hn1 : tn < 4294967296 := hn1
          have hn2 : tk ≠ 2 → tn = 0 := hn2
          have HONE := Lib.hid hone
          have HT := Lib.hid hTT
          clear hv hmem hT hTT hTd hone hfa e0 e1 e2 e3 htk
          have d1 : decide (tn < 0) = false := by simp; omega
          have d2 : decide (4294967296 ≤ tn) = false := decide_eq_false (by omega)
          have heq : ∀ wx, (Op.equalIn 10000 30 (.agg #[.int .i64 tk, .string T, .int .i64 tn, .int .i64 0]) (.agg #[.int .i64 tk, .string T, .int .i64 tn, .int .i64 0])).run Tryd.prog wx = .ok true wx := fun wx => by
            have := tokEq ⟨tk, T, tn, 0⟩ ⟨tk, T, tn, 0⟩ wx
            rwa [decide_eq_true rfl] at this
          have hkinds : tk = 2 ∨ ((tk == 2) = false ∧ (tk != 2) = true ∧ tn = 0) := by
            by_cases h : tk = 2
            · exact .inl h
            · exact .inr ⟨by simpa using h, by simpa using h, hn2 h⟩
          clear hn0 hn1 hn2
          go_wp2_with fail
          refine (HONE.out wr).mono ?_
          rintro e w3 ⟨p3, c3, rfl, ho3, hb3, _⟩
          have hbr3 := hbr.trans (hb3.mono hbr.size)
          have ht3 := (show Toks w3 p3 [⟨tk, bs tt, tn, 0⟩] from Toks.of_own ho3)
          clear ho3
          obtain ⟨b3, o3, rfl, hlt3, s0, s1, s2, s3⟩ := ht3.at_ 0 (by simp)
          have s0 : w3.cell? ⟨b3, o3, none⟩ = some (.int .i64 tk) := by simpa using s0
          have s1 : w3.cell? ⟨b3, o3 + 1, none⟩ = some (.string T) := by rw [← HT.out]; simpa using s1
          have s2 : w3.cell? ⟨b3, o3 + 2, none⟩ = some (.int .i64 tn) := by simpa using s2
          have s3 : w3.cell? ⟨b3, o3 + 3, none⟩ = some (.int .i64 0) := by simpa using s3
          obtain ⟨b', o', hp', -, f0, f1, f2, f3⟩ := ((ht.later hbr).later hb3).at_ k (by rw [tsV_length]; exact hkt)
          simp only [Option.some.injEq, Addr.mk.injEq, and_true] at hp'
          obtain ⟨rfl, rfl⟩ := hp'
          have hbig3 : b < w3.heap.size := World.block_lt_of_cell? w3 _ f0
          have k0 : w3.cell? ⟨b, o + k * 4, none⟩ = some (.int .i64 tk) := (hb3.cell (p := ⟨b, _, none⟩) (World.block_lt_of_cell? wr _ g0)).trans g0
          have k1 : w3.cell? ⟨b, o + k * 4 + 1, none⟩ = some (.string T) := (hb3.cell (p := ⟨b, _, none⟩) (World.block_lt_of_cell? wr _ g1)).trans g1
          have k2 : w3.cell? ⟨b, o + k * 4 + 2, none⟩ = some (.int .i64 tn) := (hb3.cell (p := ⟨b, _, none⟩) (World.block_lt_of_cell? wr _ g2)).trans g2
          have k3 : w3.cell? ⟨b, o + k * 4 + 3, none⟩ = some (.int .i64 (tp : Int)) := (hb3.cell (p := ⟨b, _, none⟩) (World.block_lt_of_cell? wr _ g3)).trans g3
          clear f0 f1 f2 f3 g0 g1 g2 g3
          go_wp2_with fail
          obtain ⟨W4, hW4⟩ : ∃ W4, W4 = w3.alloc (Obj.cells #[Value.int .i64 tk, Value.string T, Value.int .i64 tn, Value.int .i64 0] 30) := ⟨_, rfl⟩
          rw [← hW4]
          have HB4 : Blk W4 w3.heap.size 30 #[Value.int .i64 tk, Value.string T, Value.int .i64 tn, Value.int .i64 0] := by rw [hW4]; exact Blk.made w3 _ _
          have hB34 : Below w3.heap.size w3 W4 := by rw [hW4]; exact (Below.refl _ _).alloc (Nat.le_refl _) _
          clear hW4
          have m0 : W4.cell? ⟨w3.heap.size, 0, none⟩ = some (.int .i64 tk) := HB4.cell 0
          have m1 : W4.cell? ⟨w3.heap.size, 1, none⟩ = some (.string T) := HB4.cell 1
          have m2 : W4.cell? ⟨w3.heap.size, 2, none⟩ = some (.int .i64 tn) := HB4.cell 2
          have m3 : W4.cell? ⟨w3.heap.size, 3, none⟩ = some (.int .i64 0) := HB4.cell 3
          have n0 : W4.cell? ⟨b3, o3, none⟩ = some (.int .i64 tk) := (hB34.cell (p := ⟨b3, _, none⟩) hlt3).trans s0
          have n1 : W4.cell? ⟨b3, o3 + 1, none⟩ = some (.string T) := (hB34.cell (p := ⟨b3, _, none⟩) hlt3).trans s1
          have n2 : W4.cell? ⟨b3, o3 + 2, none⟩ = some (.int .i64 tn) := (hB34.cell (p := ⟨b3, _, none⟩) hlt3).trans s2
          have n3 : W4.cell? ⟨b3, o3 + 3, none⟩ = some (.int .i64 0) := (hB34.cell (p := ⟨b3, _, none⟩) hlt3).trans s3
          clear k0 k1 k2 k3 s0 s1 s2 s3
          have hbr4 := hbr3.trans (hB34.mono hbr3.size)
          rcases hkinds with rfl | ⟨hk2, hk3, rfl⟩
          all_goals
            go_quiet (fail)
            go_wp2_with fail
            go_roundw
            case rel => exact ⟨k + 1, by go_num, by omega, below_drewN hbr4 _⟩
            case measure => simp [intOf]; omega
        · have hB3 := hB2.trans (hbr.mono hB2.size)
          go_wp2_with fail
          refine (digits_any x hx _).mono ?_
          rintro e w4 ⟨rfl, hb4⟩
          rw [hS]
          have hB4 := hB3.trans (hb4.mono hB3.size)
          go_wp2_with fail
          refine (HD1.out w4).mono ?_
          rintro e w5 ⟨p5, c5, rfl, ho5, hb5, _⟩
          have hB5 := hB4.trans (hb5.mono hB4.size)
          have ht5 := Toks.of_own ho5
          clear ho5
          obtain ⟨b5, o5, rfl, -, q0, q1, q2, q3⟩ := (show Toks w5 p5 [⟨2, bs (decP x), x, 0⟩] from ht5).at_ 0 (by simp)
          go_wp2_with fail
          refine (HD2.out w5).mono ?_
          rintro e w6 ⟨rfl, hb6⟩
          have hB6 := hB5.trans (hb6.mono hB5.size)
          obtain ⟨b6, o6, hp6, -, r0, r1, r2, r3⟩ := ((show Toks w5 (some ⟨b5, o5, none⟩) [⟨2, bs (decP x), x, 0⟩] from ht5).later hb6).at_ 0 (by simp)
          simp only [Option.some.injEq, Addr.mk.injEq, and_true] at hp6
          obtain ⟨rfl, rfl⟩ := hp6
          have r0 : w6.cell? ⟨b5, o5, none⟩ = some (.int .i64 2) := by simpa using r0
          have r1 : w6.cell? ⟨b5, o5 + 1, none⟩ = some (.string S) := by rw [← hS]; simpa using r1
          have r2 : w6.cell? ⟨b5, o5 + 2, none⟩ = some (.int .i64 (x : Int)) := by simpa using r2
          have r3 : w6.cell? ⟨b5, o5 + 3, none⟩ = some (.int .i64 0) := by simpa using r3
          have heq : ∀ wx, (Op.equalIn 10000 30 (.agg #[.int .i64 2, .string S, .int .i64 x, .int .i64 0]) (.agg #[.int .i64 2, .string S, .int .i64 x, .int .i64 0])).run Tryd.prog wx = .ok true wx := fun wx => by
            have := tokEq ⟨2, S, x, 0⟩ ⟨2, S, x, 0⟩ wx
            rwa [decide_eq_true rfl] at this
          clear q0 q1 q2 q3
          go_wp2_with fail
          go_ret
          exact ⟨rfl, hB6⟩
end Go.Proofs.YtplndghcileghaaDoor
