/-
  SPEC: keys, put and deleted.
-/
import Derived.Test.YthbpoagkfpalfaaRows
import Derived.ProofKit
import Derived.Deep.QuietTactic
import Derived.BigQuiet
import Derived.LoopTactic
import Derived.Test.YthbpoagkfpalfaaSpecW
namespace Go.Proofs.Ythbpoagkfpalfaa
open Go.ChangeShapes Go.WideShapes Go.ChangeAt Go.RowKit

/-- what the law makes of an operation: has the key a value, and which? -/
def kS (key : Int) (s : Bool × Int) (o : OpV) : Bool × Int :=
  if o.a = key then (if o.kind = 2 then (if s.1 = false then (true, o.b) else s) else if o.kind = 3 then (false, 0) else s) else s
def stO (o : Option Int) : Bool × Int := (o.isSome, o.getD 0)
theorem fold_snoc (key : Int) (l : List OpV) (k : Nat) (h : k < l.length) (z : Bool × Int) : (l.take (k + 1)).foldl (kS key) z = kS key ((l.take k).foldl (kS key) z) l[k] := by
  rw [List.take_succ_eq_append_getElem h, List.foldl_append]; rfl
theorem kS_mdo (key : Int) (L : List (Int × Int)) (h : Srt L) (o : OpV) (ho : kindOf o.kind = 1) : kS key (stO (mget L key)) o = stO (mget (mdo L o).1 key) := by
  unfold kS
  by_cases ha : o.a = key
  · rw [if_pos ha]
    subst ha
    rcases kind_one ho with hk | hk | hk
    · rw [if_neg (show ¬ o.kind = 2 by omega), if_neg (show ¬ o.kind = 3 by omega)]
      unfold mdo
      rw [if_pos hk]
      cases hg : mget L o.a <;> simp [hg]
    · rw [if_pos hk]
      unfold mdo
      rw [if_neg (show ¬ o.kind = 1 by omega), if_pos hk]
      cases hg : mget L o.a with
      | none => dsimp only; rw [get_ins _ _ _ _ h hg, if_pos rfl]; rfl
      | some v => dsimp only; rw [hg]; rfl
    · rw [if_neg (show ¬ o.kind = 2 by omega), if_pos hk]
      unfold mdo
      rw [if_neg (show ¬ o.kind = 1 by omega), if_neg (show ¬ o.kind = 2 by omega)]
      cases hg : mget L o.a with
      | none => dsimp only; rw [hg]; rfl
      | some v => dsimp only; rw [get_del _ _ _ h, if_pos rfl]; rfl
  · rw [if_neg ha, mdo_other L h o key (fun e => ha e.symm)]
theorem kS_no (key : Int) (s : Bool × Int) (o : OpV) (ho : kindOf o.kind ≠ 1) : kS key s o = s := by
  unfold kS
  split
  · rw [if_neg (by intro e; rw [e] at ho; exact ho rfl), if_neg (by intro e; rw [e] at ho; exact ho rfl)]
  · rfl
theorem keys_scan (key : Int) : ∀ (l : List OpV) (L : List (Int × Int)), Srt L → ∃ M, Srt M ∧ (allC ⟨1, fk L, fv L⟩ l).1 = ⟨1, fk M, fv M⟩ ∧ l.foldl (kS key) (stO (mget L key)) = stO (mget M key)
  | [], L, h => ⟨L, h, rfl, rfl⟩
  | o :: l, L, h => by
    by_cases ho : kindOf o.kind = 1
    · obtain ⟨M, h1, h2, h3⟩ := keys_scan key l (mdo L o).1 (mdo_srt L o h)
      refine ⟨M, h1, ?_, ?_⟩
      · show (allC (doC ⟨1, fk L, fv L⟩ o).1 l).1 = _
        rw [do_pairs L h o ho]; exact h2
      · rw [List.foldl_cons, kS_mdo key L h o ho]; exact h3
    · obtain ⟨M, h1, h2, h3⟩ := keys_scan key l L h
      refine ⟨M, h1, ?_, ?_⟩
      · show (allC (doC ⟨1, fk L, fv L⟩ o).1 l).1 = _
        rw [doC_no ho]; exact h2
      · rw [List.foldl_cons, kS_no key _ o ho]; exact h3
theorem keys_facts (key : Int) (l : List OpV) (n : Nat) (hl : l.length = n) : ∃ ks vs told bs, allC ⟨1, [], []⟩ l = (⟨1, ks, vs⟩, told, bs) ∧ rightC ⟨1, ks, vs⟩ = true ∧
    doC ⟨1, ks, vs⟩ ⟨1, 0, key, 0⟩ = (⟨1, ks, vs⟩, (l.foldl (kS key) (false, 0)).2, (l.foldl (kS key) (false, 0)).1) ∧ ks.length ≤ n ∧ vs.length ≤ n := by
  obtain ⟨M, h1, h2, h3⟩ := keys_scan key l [] List.Pairwise.nil
  have h4 := allC_grow l ⟨1, [], []⟩
  have h2 : (allC ⟨1, [], []⟩ l).1 = ⟨1, fk M, fv M⟩ := h2
  rw [h2] at h4
  dsimp only at h4
  have h3 : l.foldl (kS key) (false, 0) = stO (mget M key) := h3
  refine ⟨fk M, fv M, (allC ⟨1, [], []⟩ l).2.1, (allC ⟨1, [], []⟩ l).2.2, by rw [← h2], pairs_right h1, ?_, by simpa [hl] using h4.1, by simpa [hl] using h4.2⟩
  rw [h3, do_pairs M h1 _ rfl]
  unfold mdo
  rw [if_pos rfl]
  dsimp only
  cases hg : mget M key <;> rfl
set_option maxRecDepth 100000 in
set_option maxHeartbeats 8000000 in
theorem walkSpecKeys (p : Option Addr) (cap : Nat) (l : List OpV) (key : Int) (w : World) (hod : Ods w p l) (hm : l.length ≤ maxLen) (hk : l.length ≤ cap) (hn : p = none → cap = 0) (_hkey : -9223372036854775808 ≤ key ∧ key ≤ 9223372036854775807) : Calls Try.prog 7 #[.slice p l.length cap, .int .i64 key] w fun e w' => e = .returned (.bool true) ∧ Below w.heap.size w w' := by
  obtain ⟨n, hl⟩ : ∃ n, l.length = n := ⟨_, rfl⟩
  rw [hl] at hm hk
  rw [hl]
  have HL := Lib.hid hl
  have HOD := Lib.hid fun wx (hx : Below w.heap.size w wx) => hod.later hx
  clear hod hl hm hk hn
  go_enter Try.func7, Try.ntmps7
  go_wp2_with fail
  refine (awake_any _).mono ?_
  rintro e w1 ⟨rfl, hb1⟩
  have HB := Lib.hid hb1
  clear hb1
  by_cases hbig : 40 < n
  · go_wp2_with fail
    go_ret
    exact ⟨rfl, HB.out⟩
  have h40 : decide (40 < (n : Int)) = false := by simp; omega
  go_wp2_with fail
  go_loopw [6, 7, 8] (fun h v i wr => ∃ (k : Nat) (s1 : Bool) (s2 : Int), i = .int .i64 k ∧ h = .bool s1 ∧ v = .int .i64 s2 ∧ k ≤ n ∧ Hid ((l.take k).foldl (kS key) (false, 0) = (s1, s2)) ∧ wr = w1) (fun _ _ i _ => n - (intOf i).toNat)
  case atStart => exact ⟨0, false, 0, rfl, rfl, rfl, by omega, Lib.hid rfl, rfl⟩
  case round =>
    obtain ⟨k, s1, s2, rfl, rfl, rfl, hkn, HS, rfl⟩ := hrel
    by_cases hlt : k < n
    · have hk1 : k < l.length := by rw [HL.out]; exact hlt
      obtain ⟨b, off, rfl, hlb, g0, g1, g2, g3⟩ := (HOD.out _ HB.out).at_ k hk1
      obtain ⟨o, ho⟩ : ∃ o, l[k] = o := ⟨_, rfl⟩
      rw [ho] at g0 g1 g2 g3
      have HO := Lib.hid ho
      clear ho
      by_cases hak : o.a = key
      case neg =>
        have d1 : (o.a == key) = false := by simp; exact hak
        have d2 : (o.a != key) = true := by simp; exact hak
        have HA := Lib.hid hak
        clear hak
        go_wp2_with fail
        go_roundw
        case rel =>
          refine ⟨k + 1, s1, s2, by go_num, rfl, rfl, by omega, Lib.hid ?_, trivial⟩
          rw [fold_snoc key l k (by rw [HL.out]; exact hlt), HS.out, HO.out]
          unfold kS; rw [if_neg HA.out]
        case measure => simp [intOf]; omega
      case pos =>
        have d1 : (o.a == key) = true := by simp; exact hak
        have d2 : (o.a != key) = false := by simp; exact hak
        have HA := Lib.hid hak
        clear hak
        by_cases hk2 : o.kind = 2
        · have e1 : (o.kind == 2) = true := by simp; exact hk2
          have e2 : (o.kind == 3) = false := by simp; omega
          have HK := Lib.hid hk2
          clear hk2
          cases s1
          · go_wp2_with fail
            go_roundw
            case rel =>
              refine ⟨k + 1, true, o.b, by go_num, rfl, rfl, by omega, Lib.hid ?_, trivial⟩
              rw [fold_snoc key l k (by rw [HL.out]; exact hlt), HS.out, HO.out]
              unfold kS; rw [if_pos HA.out, if_pos HK.out, if_pos rfl]
            case measure => simp [intOf]; omega
          · go_wp2_with fail
            go_roundw
            case rel =>
              refine ⟨k + 1, true, s2, by go_num, rfl, rfl, by omega, Lib.hid ?_, trivial⟩
              rw [fold_snoc key l k (by rw [HL.out]; exact hlt), HS.out, HO.out]
              unfold kS; rw [if_pos HA.out, if_pos HK.out, if_neg (by simp)]
            case measure => simp [intOf]; omega
        · by_cases hk3 : o.kind = 3
          · have e1 : (o.kind == 2) = false := by simp; exact hk2
            have e2 : (o.kind == 3) = true := by simp; exact hk3
            have HK := Lib.hid hk2
            have HK3 := Lib.hid hk3
            clear hk2 hk3
            go_wp2_with fail
            go_roundw
            case rel =>
              refine ⟨k + 1, false, 0, by go_num, rfl, rfl, by omega, Lib.hid ?_, trivial⟩
              rw [fold_snoc key l k (by rw [HL.out]; exact hlt), HS.out, HO.out]
              unfold kS; rw [if_pos HA.out, if_neg HK.out, if_pos HK3.out]
            case measure => simp [intOf]; omega
          · have e1 : (o.kind == 2) = false := by simp; exact hk2
            have e2 : (o.kind == 3) = false := by simp; exact hk3
            have HK := Lib.hid hk2
            have HK3 := Lib.hid hk3
            clear hk2 hk3
            go_wp2_with fail
            go_roundw
            case rel =>
              refine ⟨k + 1, s1, s2, by go_num, rfl, rfl, by omega, Lib.hid ?_, trivial⟩
              rw [fold_snoc key l k (by rw [HL.out]; exact hlt), HS.out, HO.out]
              unfold kS; rw [if_pos HA.out, if_neg HK.out, if_neg HK3.out]
            case measure => simp [intOf]; omega
    · obtain rfl : k = n := by omega
      have hs := HS.out
      rw [List.take_of_length_le (by rw [HL.out]; exact Nat.le_refl _)] at hs
      obtain ⟨ks, vs, told, bs, q1, q2, q3, q4, q5⟩ := keys_facts key l k HL.out
      rw [hs] at q3
      dsimp only at q3
      obtain ⟨nk, hnk⟩ : ∃ m, ks.length = m := ⟨_, rfl⟩
      obtain ⟨nv, hnv⟩ : ∃ m, vs.length = m := ⟨_, rfl⟩
      rw [hnk] at q4
      rw [hnv] at q5
      have hB := HB.out
      have hod := HOD.out _ HB.out
      clear HB HS hs hlt HOD
      have Hhod := Lib.hid hod
      have HhB := Lib.hid hB
      clear hod hB
      go_wp2_with fail
      have hod := Hhod.out
      have hB := HhB.out
      clear Hhod HhB
      refine (new_any 1 _).mono ?_
      rintro e w2 ⟨rfl, hb⟩
      replace hod := hod.later hb
      replace hB := hB.trans (hb.mono hB.size)
      clear hb
      have Hhod := Lib.hid hod
      have HhB := Lib.hid hB
      clear hod hB
      go_wp2_with fail
      have hod := Hhod.out
      have hB := HhB.out
      clear Hhod HhB
      refine (all_at ⟨1, [], []⟩ l k HL.out _ _ _ _ _ q1 0 0 rfl rfl _ _ _ _ _ _ _ (Nums.nix _) (Nums.nix _) hod (by omega) (by omega) (by omega) nk nv hnk hnv).mono ?_
      rintro e w3 ⟨kp, kc, vp, vc, ga, gb, rfl, P, Q, -, -, hb⟩
      replace hod := hod.later hb
      replace hB := hB.trans (hb.mono hB.size)
      clear hb
      obtain ⟨V3, hV⟩ : ∃ V, V = w3.alloc (Obj.cells #[.int .i64 1, .slice kp nk kc, .slice vp nv vc] 24) := ⟨_, rfl⟩
      have KX : Blk V3 w3.heap.size 24 #[.int .i64 1, .slice kp nk kc, .slice vp nv vc] := by rw [hV]; exact Blk.made _ _ _
      have hbv : Below w3.heap.size w3 V3 := by rw [hV]; exact below_alloc1 _ _
      replace hod := hod.later hbv
      replace P := P.later hbv
      replace Q := Q.later hbv
      replace hB := hB.trans (hbv.mono hB.size)
      clear hbv
      have HV := Lib.hid hV
      clear hV
      have Hhod := Lib.hid hod
      have HP := Lib.hid P
      have HQ := Lib.hid Q
      have HKX := Lib.hid KX
      have HhB := Lib.hid hB
      clear hod P Q KX hB
      go_wp2_with fail
      have hod := Hhod.out
      have P := HP.out
      have Q := HQ.out
      have KX := HKX.out
      have hB := HhB.out
      clear Hhod HP HQ HKX HhB
      rw [← HV.out]
      clear HV
      refine (do_at ⟨1, ks, vs⟩ ⟨1, 0, key, 0⟩ _ _ _ _ _ q3 nk nv hnk hnv _ _ _ _ _ P Q (by omega) (by omega) nk nv hnk hnv).mono ?_
      rintro e w4 ⟨kp2, kc2, vp2, vc2, rfl, -, -, hb⟩
      replace hod := hod.later hb
      replace P := P.later hb
      replace Q := Q.later hb
      replace KX := KX.later hb
      replace hB := hB.trans (hb.mono hB.size)
      clear hb
      have x0 : World.cell? _ ⟨w3.heap.size, 0, none⟩ = some (.int .i64 1) := KX.cell 0
      have x1 : World.cell? _ ⟨w3.heap.size, 1, none⟩ = some (.slice kp nk kc) := KX.cell 1
      have x2 : World.cell? _ ⟨w3.heap.size, 2, none⟩ = some (.slice vp nv vc) := KX.cell 2
      have xl := KX.lt
      obtain ⟨V4, hV⟩ : ∃ V, V = w4.alloc (Obj.cells #[.int .i64 1, .slice kp2 nk kc2, .slice vp2 nv vc2] 24) := ⟨_, rfl⟩
      have KY : Blk V4 w4.heap.size 24 #[.int .i64 1, .slice kp2 nk kc2, .slice vp2 nv vc2] := by rw [hV]; exact Blk.made _ _ _
      have hbv : Below w4.heap.size w4 V4 := by rw [hV]; exact below_alloc1 _ _
      replace hod := hod.later hbv
      replace P := P.later hbv
      replace Q := Q.later hbv
      replace KX := KX.later hbv
      replace hB := hB.trans (hbv.mono hB.size)
      clear hbv
      have HV := Lib.hid hV
      clear hV
      have e1 : (s1 == s1) = true := by simp
      have e2 : (s2 == s2) = true := by simp
      have Hhod := Lib.hid hod
      have HP := Lib.hid P
      have HQ := Lib.hid Q
      have HKX := Lib.hid KX
      have HKY := Lib.hid KY
      have HhB := Lib.hid hB
      clear hod P Q KX KY hB
      go_wp2_with fail
      clear x0 x1 x2 xl
      have hod := Hhod.out
      have P := HP.out
      have Q := HQ.out
      have KX := HKX.out
      have KY := HKY.out
      have hB := HhB.out
      clear Hhod HP HQ HKX HKY HhB
      rw [← HV.out]
      clear HV
      refine (cright_at ⟨1, ks, vs⟩ true q2 nk nv hnk hnv _ _ _ _ _ P (by omega) (by omega)).mono ?_
      rintro e w5 ⟨rfl, hb⟩
      replace hod := hod.later hb
      replace P := P.later hb
      replace Q := Q.later hb
      replace KX := KX.later hb
      replace KY := KY.later hb
      replace hB := hB.trans (hb.mono hB.size)
      clear hb
      have Hhod := Lib.hid hod
      have HP := Lib.hid P
      have HQ := Lib.hid Q
      have HKX := Lib.hid KX
      have HKY := Lib.hid KY
      have HhB := Lib.hid hB
      clear hod P Q KX KY hB
      go_wp2_with fail
      have hod := Hhod.out
      have P := HP.out
      have Q := HQ.out
      have KX := HKX.out
      have KY := HKY.out
      have hB := HhB.out
      clear Hhod HP HQ HKX HKY HhB
      go_ret
      exact ⟨rfl, hB⟩
end Go.Proofs.Ythbpoagkfpalfaa
