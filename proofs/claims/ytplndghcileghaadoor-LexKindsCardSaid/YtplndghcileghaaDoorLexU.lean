/-
  LEX: the document's end, number.
-/
import Derived.Test.YtplndghcileghaaDoorRows
import Derived.ProofKit
import Derived.Test.YtplndghcileghaaDoorLexR
namespace Go.Proofs.YtplndghcileghaaDoor
open Go.ChangeShapes Go.WideShapes Go.ChangeAt Go.RowKit

theorem class_is (n : Nat) (hn : n < 256) (k : Int) (h : classB (n : Int) = k) (w : World) : Calls Tryd.prog 21 #[.int .u8 (n : Int)] w fun e w' => e = .returned (.int .i64 k) ∧ w' = w := by
  subst h; exact class_any n hn w

theorem tw_at (P : UInt8 → Bool) : ∀ (l : List UInt8) (n : Nat), n ≤ l.length → (∀ j c, j < n → l[j]? = some c → P c = true) → (n = l.length ∨ ∃ c, l[n]? = some c ∧ P c = false) → (l.takeWhile P).length = n
  | [], n, hn, _, _ => by have : n = 0 := by simpa using hn
                          subst this; rfl
  | c :: l, 0, _, _, h => by
    rcases h with h | ⟨d, hd, hp⟩
    · simp at h
    · have : c = d := by simpa using hd
      subst this
      simp [List.takeWhile, hp]
  | c :: l, n + 1, hn, ha, h => by
    have hc : P c = true := ha 0 c (by omega) rfl
    have := tw_at P l n (by simpa using hn) (fun j d hj hd => ha (j + 1) d (by omega) (by simpa using hd)) (by simpa using h)
    simp [List.takeWhile, hc, this]

theorem drop_get (s : ByteArray) (a i : Nat) (h : a + i < s.size) : (s.data.toList.drop a)[i]? = some (s[a + i]'h) := by
  rw [List.getElem?_drop]; exact byte_at s (a + i) h

set_option maxHeartbeats 1000000 in
theorem end_name (s : ByteArray) (a : Nat) (ha : a < s.size) (hs : s.size ≤ 4000) (hk : classB ((s[a]'ha).toNat : Int) = 1) (w : World) :
    Calls Tryd.prog 22 #[.string s, .int .i64 (a : Int)] w fun e w' => e = .returned (.int .i64 ((a + ((s.data.toList.drop a).takeWhile inNameU).length : Nat) : Int)) ∧ w' = w := by
  have hlen : (s.data.toList.drop a).length = s.size - a := by rw [List.length_drop, Array.length_toList]; rfl
  obtain ⟨q, hq⟩ : ∃ q, ((s.data.toList.drop a).takeWhile inNameU).length = q := ⟨_, rfl⟩
  have HQ := Lib.hid hq
  rw [hq]
  have h0 : Hid (inNameU (s[a]'ha) = true) := by
    apply Lib.hid
    rw [(class_name _).1, hk]; rfl
  have HK := Lib.hid hk
  have HL := Lib.hid hlen
  clear hk hlen hq
  go_enter Tryd.func22, Tryd.ntmps22
  go_wp2_with fail
  refine (class_is _ (s[a]'ha).toNat_lt 1 HK.out _).mono ?_
  rintro e w1 ⟨rfl, rfl⟩
  go_wp2_with fail
  go_loop [6] (fun n => ∃ m : Nat, n = .int .i64 ((a + m : Nat) : Int) ∧ 1 ≤ m ∧ a + m ≤ s.size ∧ Hid (∀ j c, j < m → (s.data.toList.drop a)[j]? = some c → inNameU c = true)) (fun n => s.size - (intOf n).toNat)
  case atStart =>
    refine ⟨1, by go_num, by omega, by omega, Lib.hid (fun j c hj hc => ?_)⟩
    obtain rfl : j = 0 := by omega
    rw [drop_get s a 0 (by omega)] at hc
    injection hc with hc
    rw [← hc]; exact h0.out
  case round =>
    obtain ⟨m, rfl, hm1, hm2, HA⟩ := hrel
    by_cases hlt : a + m < s.size
    · have HC := Lib.hid (class_cases (s[a + m]'hlt))
      have HN := Lib.hid (class_name (s[a + m]'hlt)).1
      have HG := Lib.hid (drop_get s a m hlt)
      have hend : Hid (inNameU (s[a + m]'hlt) = false → q = m) := by
        refine Lib.hid (fun h => ?_)
        rw [← HQ.out]
        exact tw_at _ _ _ (by rw [HL.out]; omega) HA.out (.inr ⟨_, HG.out, h⟩)
      have hgo : Hid (inNameU (s[a + m]'hlt) = true → ∀ j c, j < m + 1 → (s.data.toList.drop a)[j]? = some c → inNameU c = true) := by
        refine Lib.hid (fun h j c hj hc => ?_)
        by_cases hjm : j < m
        · exact HA.out j c hjm hc
        · obtain rfl : j = m := by omega
          rw [HG.out] at hc
          injection hc with hc
          rw [← hc]; exact h
      rcases HC.out with ⟨h, _⟩ | ⟨h, _⟩ | ⟨h, _⟩ | ⟨h, _⟩ | ⟨h, _⟩ | ⟨h, _⟩
      all_goals
        have HI := Lib.hid h
        clear h
        go_wp2_with fail
        refine (class_is _ (s[a + m]'hlt).toNat_lt _ HI.out _).mono ?_
        rintro e w1 ⟨rfl, rfl⟩
        go_wp2_with fail
      · go_round
        case rel => exact ⟨m + 1, by go_num, by omega, by omega, Lib.hid (hgo.out (by rw [HN.out, HI.out]; rfl))⟩
        case measure => simp [intOf]; omega
      · go_round
        case rel => exact ⟨m + 1, by go_num, by omega, by omega, Lib.hid (hgo.out (by rw [HN.out, HI.out]; rfl))⟩
        case measure => simp [intOf]; omega
      · go_round
        case rel => exact ⟨m + 1, by go_num, by omega, by omega, Lib.hid (hgo.out (by rw [HN.out, HI.out]; rfl))⟩
        case measure => simp [intOf]; omega
      all_goals
        go_ret
        exact ⟨by rw [hend.out (by rw [HN.out, HI.out]; rfl)]; rfl, rfl⟩
    · have hend : q = m := by
        rw [← HQ.out]
        exact tw_at _ _ _ (by rw [HL.out]; omega) HA.out (.inl (by rw [HL.out]; omega))
      have HE := Lib.hid hend
      clear hend
      go_wp2_with fail
      go_ret
      exact ⟨by rw [HE.out]; rfl, rfl⟩

set_option maxHeartbeats 1000000 in
theorem end_digit (s : ByteArray) (a : Nat) (ha : a < s.size) (hs : s.size ≤ 4000) (hk : classB ((s[a]'ha).toNat : Int) = 2) (w : World) :
    Calls Tryd.prog 22 #[.string s, .int .i64 (a : Int)] w fun e w' => e = .returned (.int .i64 ((a + ((s.data.toList.drop a).takeWhile digitU).length : Nat) : Int)) ∧ w' = w := by
  have hlen : (s.data.toList.drop a).length = s.size - a := by rw [List.length_drop, Array.length_toList]; rfl
  obtain ⟨q, hq⟩ : ∃ q, ((s.data.toList.drop a).takeWhile digitU).length = q := ⟨_, rfl⟩
  have HQ := Lib.hid hq
  rw [hq]
  have h0 : Hid (digitU (s[a]'ha) = true) := by
    apply Lib.hid
    rw [(class_name _).2.1, hk]; rfl
  have HK := Lib.hid hk
  have HL := Lib.hid hlen
  clear hk hlen hq
  go_enter Tryd.func22, Tryd.ntmps22
  go_wp2_with fail
  refine (class_is _ (s[a]'ha).toNat_lt 2 HK.out _).mono ?_
  rintro e w1 ⟨rfl, rfl⟩
  go_wp2_with fail
  go_loop [6] (fun n => ∃ m : Nat, n = .int .i64 ((a + m : Nat) : Int) ∧ 1 ≤ m ∧ a + m ≤ s.size ∧ Hid (∀ j c, j < m → (s.data.toList.drop a)[j]? = some c → digitU c = true)) (fun n => s.size - (intOf n).toNat)
  case atStart =>
    refine ⟨1, by go_num, by omega, by omega, Lib.hid (fun j c hj hc => ?_)⟩
    obtain rfl : j = 0 := by omega
    rw [drop_get s a 0 (by omega)] at hc
    injection hc with hc
    rw [← hc]; exact h0.out
  case round =>
    obtain ⟨m, rfl, hm1, hm2, HA⟩ := hrel
    by_cases hlt : a + m < s.size
    · have HC := Lib.hid (class_cases (s[a + m]'hlt))
      have HN := Lib.hid (class_name (s[a + m]'hlt)).2.1
      have HG := Lib.hid (drop_get s a m hlt)
      have hend : Hid (digitU (s[a + m]'hlt) = false → q = m) := by
        refine Lib.hid (fun h => ?_)
        rw [← HQ.out]
        exact tw_at _ _ _ (by rw [HL.out]; omega) HA.out (.inr ⟨_, HG.out, h⟩)
      have hgo : Hid (digitU (s[a + m]'hlt) = true → ∀ j c, j < m + 1 → (s.data.toList.drop a)[j]? = some c → digitU c = true) := by
        refine Lib.hid (fun h j c hj hc => ?_)
        by_cases hjm : j < m
        · exact HA.out j c hjm hc
        · obtain rfl : j = m := by omega
          rw [HG.out] at hc
          injection hc with hc
          rw [← hc]; exact h
      rcases HC.out with ⟨h, _⟩ | ⟨h, _⟩ | ⟨h, _⟩ | ⟨h, _⟩ | ⟨h, _⟩ | ⟨h, _⟩
      all_goals
        have HI := Lib.hid h
        clear h
        go_wp2_with fail
        refine (class_is _ (s[a + m]'hlt).toNat_lt _ HI.out _).mono ?_
        rintro e w1 ⟨rfl, rfl⟩
        go_wp2_with fail
      · go_ret
        exact ⟨by rw [hend.out (by rw [HN.out, HI.out]; rfl)]; rfl, rfl⟩
      · go_round
        case rel => exact ⟨m + 1, by go_num, by omega, by omega, Lib.hid (hgo.out (by rw [HN.out, HI.out]; rfl))⟩
        case measure => simp [intOf]; omega
      all_goals
        go_ret
        exact ⟨by rw [hend.out (by rw [HN.out, HI.out]; rfl)]; rfl, rfl⟩
    · have hend : q = m := by
        rw [← HQ.out]
        exact tw_at _ _ _ (by rw [HL.out]; omega) HA.out (.inl (by rw [HL.out]; omega))
      have HE := Lib.hid hend
      clear hend
      go_wp2_with fail
      go_ret
      exact ⟨by rw [HE.out]; rfl, rfl⟩

/-- how long a sign is -/
def signP (l : List UInt8) : Nat := match l with | [] => 1 | c :: r => if c == 61 && r.head? == some 61 then 2 else 1

theorem end_sign (s : ByteArray) (a : Nat) (ha : a < s.size) (hs : s.size ≤ 4000) (hk : classB ((s[a]'ha).toNat : Int) = 5) (w : World) :
    Calls Tryd.prog 22 #[.string s, .int .i64 (a : Int)] w fun e w' => e = .returned (.int .i64 ((a + signP (s.data.toList.drop a) : Nat) : Int)) ∧ w' = w := by
  obtain ⟨c, hc⟩ : ∃ c : Nat, (s[a]'ha).toNat = c := ⟨_, rfl⟩
  have HK := Lib.hid hk
  have hd := drop_at s a ha
  obtain ⟨q, hq⟩ : ∃ q, signP (s.data.toList.drop a) = q := ⟨_, rfl⟩
  rw [hq]
  by_cases h61 : c = 61
  · have hcc : (s[a]'ha) = 61 := UInt8.toNat_inj.1 (by rw [hc, h61]; rfl)
    by_cases hlt : a + 1 < s.size
    · obtain ⟨d, hdd⟩ : ∃ d : Nat, (s[a + 1]'hlt).toNat = d := ⟨_, rfl⟩
      have hd2 := drop_at s (a + 1) hlt
      by_cases h2 : d = 61
      · have hq2 : q = 2 := by
          have : (s[a + 1]'hlt) = 61 := UInt8.toNat_inj.1 (by rw [hdd, h2]; rfl)
          rw [← hq, hd, hd2, hcc, this]; rfl
        subst hq2
        have HH := Lib.hid hq
        have HD := Lib.hid hd
        have HD2 := Lib.hid hd2
        clear hk hd hd2 hq
        have hda : (s[a + 1]'hlt).toNat = 61 := by rw [hdd, h2]
        have hca : (s[a]'ha).toNat = 61 := by rw [hc, h61]
        clear hc hdd h61 h2 hcc
        go_enter Tryd.func22, Tryd.ntmps22
        go_wp2_with fail
        refine (class_is 61 (by decide) 5 (by decide) _).mono ?_
        rintro e w1 ⟨rfl, rfl⟩
        go_wp2_with fail
        go_ret
        exact ⟨retI (by omega), rfl⟩
      · have hq2 : q = 1 := by
          have : (s[a + 1]'hlt == 61) = false := by
            rw [beq_eq_false_iff_ne]; intro e; rw [e] at hdd; exact h2 hdd.symm
          rw [← hq, hd, hd2, hcc]; simp [signP]; simpa using this
        subst hq2
        have HH := Lib.hid hq
        have HD := Lib.hid hd
        have HD2 := Lib.hid hd2
        clear hk hd hd2 hq
        have hda : (((s[a + 1]'hlt).toNat : Int) == 61) = false := by simp; omega
        have hca : (s[a]'ha).toNat = 61 := by rw [hc, h61]
        clear hc hdd h61 h2 hcc
        go_enter Tryd.func22, Tryd.ntmps22
        go_wp2_with fail
        refine (class_is 61 (by decide) 5 (by decide) _).mono ?_
        rintro e w1 ⟨rfl, rfl⟩
        go_wp2_with fail
        go_ret
        exact ⟨rfl, rfl⟩
    · have hq2 : q = 1 := by
        have : s.data.toList.drop (a + 1) = [] := List.drop_eq_nil_of_le (by rw [Array.length_toList]; show s.size ≤ _; omega)
        rw [← hq, hd, this]; simp [signP]
      subst hq2
      have HH := Lib.hid hq
      have HD := Lib.hid hd
      clear hk hd hq
      have hca : (s[a]'ha).toNat = 61 := by rw [hc, h61]
      clear hc h61 hcc
      go_enter Tryd.func22, Tryd.ntmps22
      go_wp2_with fail
      refine (class_is 61 (by decide) 5 (by decide) _).mono ?_
      rintro e w1 ⟨rfl, rfl⟩
      go_wp2_with fail
      go_ret
      exact ⟨rfl, rfl⟩
  · have hq2 : q = 1 := by
      have : (s[a]'ha == 61) = false := by
        rw [beq_eq_false_iff_ne]; intro e; rw [e] at hc; exact h61 hc.symm
      rw [← hq, hd]; simp [signP]; intro e; rw [e] at this; exact absurd this (by decide)
    subst hq2
    have HH := Lib.hid hq
    have HD := Lib.hid hd
    clear hk hd hq
    have hca : (((s[a]'ha).toNat : Int) == 61) = false := by simp; omega
    clear hc h61
    go_enter Tryd.func22, Tryd.ntmps22
    go_wp2_with fail
    refine (class_is _ (s[a]'ha).toNat_lt 5 HK.out _).mono ?_
    rintro e w1 ⟨rfl, rfl⟩
    go_wp2_with fail
    go_ret
    exact ⟨rfl, rfl⟩
end Go.Proofs.YtplndghcileghaaDoor
