/-
  SPEC: pops and receives.
-/
import Derived.Test.YthbpoagkfpalfaaRows
import Derived.ProofKit
import Derived.Deep.QuietTactic
import Derived.BigQuiet
import Derived.LoopTactic
import Derived.Test.YthbpoagkfpalfaaSpecX
import Derived.Test.YthbpoagkfpalfaaAfter
import Derived.Test.YthbpoagkfpalfaaSpecY
import Derived.Deep.RegionHeld3
import Derived.Deep.DeepCutAuto
import Derived.Deep.DeepMust
namespace Go.Proofs.Ythbpoagkfpalfaa
open Go.ChangeShapes Go.WideShapes Go.ChangeAt Go.RowKit

theorem int_info : (Try.prog.info? 3).map (fun i => (i.zero, i.size, i.bytes)) = some (some (.int .i64 0), 1, 8) := by kernel_rfl
def pus (l : List Int) : List OpV := l.map fun a => ⟨4, 0, a, 0⟩
def sen (l : List Int) : List OpV := l.map fun a => ⟨6, 0, a, 0⟩
theorem take_rev (l : List Int) (k j : Nat) (hk : k < l.length) (hj : j = l.length - 1 - k) : l.reverse.take (k + 1) = l.reverse.take k ++ [l[j]'(by omega)] := by
  subst hj
  rw [List.take_succ_eq_append_getElem (by simpa using hk), List.getElem_reverse]
theorem pus_snoc (l : List Int) (k : Nat) (hk : k < l.length) : pus (l.take (k + 1)) = pus (l.take k) ++ [⟨4, 0, l[k], 0⟩] := by
  unfold pus; rw [List.take_succ_eq_append_getElem hk, List.map_append]; rfl
theorem sen_snoc (l : List Int) (k : Nat) (hk : k < l.length) : sen (l.take (k + 1)) = sen (l.take k) ++ [⟨6, 0, l[k], 0⟩] := by
  unfold sen; rw [List.take_succ_eq_append_getElem hk, List.map_append]; rfl
def odsM (n : Nat) (l : List OpV) : Maker := ⟨fun v => ∃ q cap, v = .slice q n cap, fun v w => ∃ q cap, v = .slice q n cap ∧ Ods w q l, ⟨_, none, 0, rfl⟩,
  fun _ _ _ ⟨q, c, h1, h2⟩ hb => ⟨q, c, h1, h2.later hb⟩⟩
theorem ods_make {P : Program} {w : World} {f : FuncId} {args : Array Value} {n : Nat} {l : List OpV} (h : Calls P f args w fun e w' => ∃ q cap, e = .returned (.slice q n cap) ∧ Ods w' q l ∧ Below w.heap.size w w' ∧ ∀ b off, q = some ⟨b, off, none⟩ → w.heap.size ≤ b) : makeUpon P (odsM n l) w (.ok (.enter f args) w) :=
  make_call (h.mono fun _ _ ⟨p, c, he, hc, hb, _⟩ => ⟨_, he, ⟨p, c, rfl⟩, ⟨p, c, rfl, hc⟩, hb⟩)
theorem ods_fact {n c : Nat} {l : List OpV} {p : Option Addr} {w : World} (h : (odsM n l).S (.slice p n c) w) : Ods w p l := by
  obtain ⟨p', c', e, hc⟩ := h
  injection e with e1 e2 e3
  rw [e1]; exact hc
theorem Bls.far {w : World} {p : Option Addr} {cap : Nat} {xs : List Bool} (h : Bls w p cap xs) (g i : Nat) (v : Value) (hne : ∀ b off, p = some ⟨b, off, none⟩ → b ≠ g) : Bls (w.setCell ⟨g, i, none⟩ v) p cap xs :=
  ⟨⟨fun j hj => by
    obtain ⟨b, off, h1, h2, h3⟩ := h.cells.at_ j hj
    refine ⟨b, off, h1, by simpa using h2, ?_⟩
    rw [World.cell?_of_block (w := w) (a := ⟨b, off + j, none⟩) (Below.heap_setCell w ⟨g, i, none⟩ v b (hne b off h1))]
    exact h3⟩⟩
/-- what regions 16 and 17 leave, whichever order was drawn -/
def DPost (V : World) (kd : Int) (n : Nat) (told : List Int) (bs : List Bool) (y s f : Value) (wx : World) : Prop :=
  ∃ b kp kc vp vc ga gb, y = .pointer (some ⟨b, 0, none⟩) ∧ s = .slice (some ⟨ga, 0, none⟩) n n ∧ f = .slice (some ⟨gb, 0, none⟩) n n ∧ Blk wx b 24 #[.int .i64 kd, .slice kp 0 kc, .slice vp 0 vc] ∧
    Nums wx (some ⟨ga, 0, none⟩) n told ∧ Bls wx (some ⟨gb, 0, none⟩) n bs ∧ Below V.heap.size V wx
theorem DPost.behind {V w5 : World} (hb : Below V.heap.size V w5) {kd : Int} {n kc vc ga gb : Nat} {told : List Int} {bs : List Bool} {kp vp : Option Addr} (T : Nums w5 (some ⟨ga, 0, none⟩) n told) (B : Bls w5 (some ⟨gb, 0, none⟩) n bs) :
    DPost V kd n told bs (.pointer (some ⟨w5.heap.size, 0, none⟩)) (.slice (some ⟨ga, 0, none⟩) n n) (.slice (some ⟨gb, 0, none⟩) n n) (w5.alloc (Obj.cells #[.int .i64 kd, .slice kp 0 kc, .slice vp 0 vc] 24)) :=
  ⟨_, kp, kc, vp, vc, ga, gb, rfl, rfl, rfl, Blk.made _ _ _, T.later (below_alloc1 _ _), B.later (below_alloc1 _ _), hb.trans ((below_alloc1 _ _).mono hb.size)⟩
theorem DPost.ahead {V w5 : World} {b : Nat} (hV : V.heap.size ≤ b) {z0 z1 z2 : Value} (K : Blk w5 b 24 #[z0, z1, z2]) (hb : Below V.heap.size V w5) {kd : Int} {n kc vc ga gb : Nat} (ha : b < ga) (hg : b < gb) {told : List Int} {bs : List Bool} {kp vp : Option Addr} (T : Nums w5 (some ⟨ga, 0, none⟩) n told) (B : Bls w5 (some ⟨gb, 0, none⟩) n bs) :
    DPost V kd n told bs (.pointer (some ⟨b, 0, none⟩)) (.slice (some ⟨ga, 0, none⟩) n n) (.slice (some ⟨gb, 0, none⟩) n n) (((w5.setCell ⟨b, 0, none⟩ (.int .i64 kd)).setCell ⟨b, 1, none⟩ (.slice kp 0 kc)).setCell ⟨b, 2, none⟩ (.slice vp 0 vc)) := by
  have hne : ∀ b' off, (some ⟨gb, 0, none⟩ : Option Addr) = some ⟨b', off, none⟩ → b' ≠ b := fun b' off e => by injection e with e; injection e with e; omega
  exact ⟨b, kp, kc, vp, vc, ga, gb, rfl, rfl, rfl, K.put3 _ _ _, T.far3 b _ _ _ (fun _ b' off e => by injection e with e; injection e with e; omega), ((B.far b 0 _ hne).far b 1 _ hne).far b 2 _ hne, below_set3 hb hV _ _ _⟩
/-- what the loop has laid -/
structure Laid (B : Nat) (W : World) (v1 v2 v3 : Value) (k : Nat) (l : List Int) : Prop where
  o1 : W.ownsRow B 26 4 v1 k (odV (pus (l.take k)))
  o2 : W.ownsRow B 26 4 v2 k (odV (sen (l.take k)))
  o3 : W.ownsRow B 3 1 v3 k ((l.reverse.take k).map (Value.int .i64))
  a12 : Apart2 v1 v2
  a13 : Apart2 v1 v3
  a23 : Apart2 v2 v3
set_option maxRecDepth 100000 in
set_option maxHeartbeats 40000000 in
theorem walkSpecLast (p : Option Addr) (hn hc : Nat) (hz : List Int) (q : Option Addr) (n lc : Nat) (lz : List Int) (w : World) (wk : IsRow .i64 w p hn hc hz) (wv : IsRow .i64 w q n lc lz) : Calls Try.prog 6 #[.slice p hn hc, .slice q n lc] w fun e w' => e = .returned (.bool true) ∧ Below w.heap.size w w' := by
  obtain ⟨i0, hi0, hz0, hz1, hz2⟩ := info_parts op_info
  obtain ⟨i1, hi1, hy0, hy1, hy2⟩ := info_parts int_info
  obtain ⟨N1, n1⟩ := Nums.of_row wk
  obtain ⟨N2, n2⟩ := Nums.of_row wv
  generalize hz.take hn = had at N1 n1
  generalize lz.take n = l at N2 n2
  clear wk wv hz lz
  have HN1 := Lib.hid fun wx (hx : Below w.heap.size w wx) => N1.later hx
  have HN2 := Lib.hid fun wx (hx : Below w.heap.size w wx) => N2.later hx
  have L1 := Lib.hid n1
  have L2 := Lib.hid n2
  clear N1 N2 n1 n2
  go_enter Try.func6, Try.ntmps6
  go_wp2_with fail
  refine (awake_any _).mono ?_
  rintro e w1 ⟨rfl, hb1⟩
  have HB1 := Lib.hid hb1
  clear hb1
  by_cases h50 : 50 < hn
  · have d1 : decide (50 < (hn : Int)) = true := by simp; omega
    go_wp2_with fail
    go_ret
    exact ⟨rfl, HB1.out⟩
  have d1 : decide (50 < (hn : Int)) = false := by simp; omega
  by_cases h51 : 50 < n
  · have d2 : decide (50 < (n : Int)) = true := by simp; omega
    go_wp2_with fail
    go_ret
    exact ⟨rfl, HB1.out⟩
  have d2 : decide (50 < (n : Int)) = false := by simp; omega
  go_wp2_with fail
  clear d1 d2
  go_loopw [6, 7, 8, 9] (fun v1 v2 v3 i wr => ∃ (k : Nat) (u1 u2 u3 : Value), i = .int .i64 k ∧ u1 = v1 ∧ u2 = v2 ∧ u3 = v3 ∧ k ≤ n ∧ ∃ W', W' = wr ∧ Hid (Laid w.heap.size W' u1 u2 u3 k l) ∧ Hid (Below w.heap.size w W')) (fun _ _ _ i _ => n - (intOf i).toNat)
  case atStart => exact ⟨0, _, _, _, rfl, rfl, rfl, rfl, by omega, _, rfl, Lib.hid ⟨World.ownsRow_nil _ _ _ _, World.ownsRow_nil _ _ _ _, World.ownsRow_nil _ _ _ _, Apart2.nil _, Apart2.nil _, Apart2.nil _⟩, HB1⟩
  case round =>
    obtain ⟨k, v1, v2, v3, rfl, rfl, rfl, rfl, hk, wr, rfl, HL, HB⟩ := hrel
    by_cases hlt : k < n
    · have hkl : k < l.length := by rw [L2.out]; exact hlt
      obtain ⟨nk, hnk⟩ : ∃ x, x = n - 1 := ⟨_, rfl⟩
      obtain ⟨j, hj⟩ : ∃ x, x = n - 1 - k := ⟨_, rfl⟩
      have e1 : (n : Int) - 1 = (nk : Int) := by omega
      have e2 : (nk : Int) - (k : Int) = (j : Int) := by omega
      have hjn : j < n := by omega
      have hjl : j < l.length := by rw [L2.out]; exact hjn
      have HJ := Lib.hid (show j = l.length - 1 - k by rw [L2.out]; exact hj)
      clear hnk hj
      obtain ⟨x, hx⟩ : ∃ x, l[k] = x := ⟨_, rfl⟩
      obtain ⟨y, hy⟩ : ∃ x, l[j] = x := ⟨_, rfl⟩
      obtain ⟨b, off, rfl, hlb, g0⟩ := (HN2.out _ HB.out).at_ k hkl
      have HG : Hid (∀ wx, Below w.heap.size w wx → wx.cell? ⟨b, off + k, none⟩ = some (.int .i64 x)) := Lib.hid fun wx hbx => by
        obtain ⟨b', off', h1, h2, h3⟩ := (HN2.out _ hbx).at_ k hkl
        simp only [Option.some.injEq, Addr.mk.injEq, and_true] at h1
        obtain ⟨rfl, rfl⟩ := h1
        rw [h3, hx]
      have HGJ : Hid (∀ wx, Below w.heap.size w wx → wx.cell? ⟨b, off + j, none⟩ = some (.int .i64 y)) := Lib.hid fun wx hbx => by
        obtain ⟨b', off', h1, h2, h3⟩ := (HN2.out _ hbx).at_ j hjl
        simp only [Option.some.injEq, Addr.mk.injEq, and_true] at h1
        obtain ⟨rfl, rfl⟩ := h1
        rw [h3, hy]
      have HPS : Hid (pus (l.take (k + 1)) = pus (l.take k) ++ [⟨4, 0, x, 0⟩]) := Lib.hid (by rw [pus_snoc l k hkl, hx])
      have HSS : Hid (sen (l.take (k + 1)) = sen (l.take k) ++ [⟨6, 0, x, 0⟩]) := Lib.hid (by rw [sen_snoc l k hkl, hx])
      have HRS : Hid (l.reverse.take (k + 1) = l.reverse.take k ++ [y]) := Lib.hid (by rw [take_rev l k j hkl HJ.out, hy])
      clear hx hy g0 hlb hkl hjl
      have HL0 := Lib.hid (And.intro HL.out.o1 (And.intro HL.out.o2 (And.intro HL.out.o3 (And.intro HL.out.a12 (And.intro HL.out.a13 HL.out.a23)))))
      have HB0 := HB
      have c0 := HG.out _ HB.out
      clear HL HB
      go_wp2_with (first
        | (at_builtin
           obtain ⟨X1, hX⟩ : ∃ W, W = wr.alloc (Obj.cells #[.int .i64 4, .int .i64 0, .int .i64 x, .int .i64 0] 26) := ⟨_, rfl⟩
           rw [← hX]
           obtain ⟨o1, o2, o3, a12, a13, a23⟩ := HL0.out
           have hb := HB0.out
           have KN : Blk X1 wr.heap.size 26 #[.int .i64 4, .int .i64 0, .int .i64 x, .int .i64 0] := by rw [hX]; exact Blk.made wr _ _
           have hbx : Below wr.heap.size wr X1 := by rw [hX]; exact below_alloc1 wr _
           have hB2 := hb.trans (hbx.mono hb.size)
           have O1 := own_below o1 hbx
           have O2 := own_below o2 hbx
           have O3 := own_below o3 hbx
           have hnews : ∀ j u, (OpV.cells ⟨4, 0, x, 0⟩)[j]? = some u → X1.cell? ((⟨wr.heap.size, 0, none⟩ : Addr).add j) = some u := by
             intro j u hu
             rw [addr_add, Nat.zero_add, KN.cell]
             simpa [OpV.cells] using hu
           refine wpList_append_own_at X1 rfl (.tmp 39) (.tmp 45) _ rfl w.heap.size 26 i0 _ 4 32 Try.underlying38 hi0 hz0 hz1 hz2 rfl (by omega) _ k _ rfl O1 ⟨wr.heap.size, 0, none⟩ 1 1 (OpV.cells ⟨4, 0, x, 0⟩) rfl rfl hnews (by simp [OpV.cells, Value.oneCell']) (by unfold maxLen; omega) (by omega) hB2.size ?_
           intro v1n Y1 hown4 hg4 _ hat
           have hbn : Below w.heap.size w Y1 := below_gb hB2 hg4 hB2.size (fun i' hi' => (O1.lt i' hi').1)
           have HB1 := Lib.hid hbn
           have HL1 := Lib.hid (And.intro hown4 (And.intro (row_kept O2 hg4 a12) (And.intro (row_kept O3 hg4 a13) (And.intro (apart_kept a12 O2 hat) (And.intro (apart_kept a13 O3 hat) a23)))))
           have c1 := HG.out _ hbn
           clear hX hb KN hbx hB2 O1 O2 O3 hnews hown4 hg4 hat hbn o1 o2 o3 a12 a13 a23)
  
        | (at_builtin
           obtain ⟨X2, hX⟩ : ∃ W, W = Y1.alloc (Obj.cells #[.int .i64 6, .int .i64 0, .int .i64 x, .int .i64 0] 26) := ⟨_, rfl⟩
           rw [← hX]
           obtain ⟨o1, o2, o3, a12, a13, a23⟩ := HL1.out
           have hb := HB1.out
           have KN : Blk X2 Y1.heap.size 26 #[.int .i64 6, .int .i64 0, .int .i64 x, .int .i64 0] := by rw [hX]; exact Blk.made Y1 _ _
           have hbx : Below Y1.heap.size Y1 X2 := by rw [hX]; exact below_alloc1 Y1 _
           have hB2 := hb.trans (hbx.mono hb.size)
           have O1 := own_below o1 hbx
           have O2 := own_below o2 hbx
           have O3 := own_below o3 hbx
           have hnews : ∀ j u, (OpV.cells ⟨6, 0, x, 0⟩)[j]? = some u → X2.cell? ((⟨Y1.heap.size, 0, none⟩ : Addr).add j) = some u := by
             intro j u hu
             rw [addr_add, Nat.zero_add, KN.cell]
             simpa [OpV.cells] using hu
           refine wpList_append_own_at X2 rfl (.tmp 47) (.tmp 53) _ rfl w.heap.size 26 i0 _ 4 32 Try.underlying38 hi0 hz0 hz1 hz2 rfl (by omega) _ k _ rfl O2 ⟨Y1.heap.size, 0, none⟩ 1 1 (OpV.cells ⟨6, 0, x, 0⟩) rfl rfl hnews (by simp [OpV.cells, Value.oneCell']) (by unfold maxLen; omega) (by omega) hB2.size ?_
           intro v2n Y2 hown4 hg4 _ hat
           have hbn : Below w.heap.size w Y2 := below_gb hB2 hg4 hB2.size (fun i' hi' => (O2.lt i' hi').1)
           have HB2 := Lib.hid hbn
           have HL2 := Lib.hid (And.intro (row_kept O1 hg4 a12.symm) (And.intro hown4 (And.intro (row_kept O3 hg4 a23) (And.intro (apart_kept a12.symm O1 hat).symm (And.intro a13 (apart_kept a23 O3 hat))))))
           have c2 := HGJ.out _ hbn
           clear hX hb KN hbx hB2 O1 O2 O3 hnews hown4 hg4 hat hbn o1 o2 o3 a12 a13 a23)
  
        | (at_builtin
           obtain ⟨X3, hX⟩ : ∃ W, W = Y2.alloc (Obj.cells #[.int .i64 y] 3) := ⟨_, rfl⟩
           rw [← hX]
           obtain ⟨o1, o2, o3, a12, a13, a23⟩ := HL2.out
           have hb := HB2.out
           have KN : Blk X3 Y2.heap.size 3 #[.int .i64 y] := by rw [hX]; exact Blk.made Y2 _ _
           have hbx : Below Y2.heap.size Y2 X3 := by rw [hX]; exact below_alloc1 Y2 _
           have hB2 := hb.trans (hbx.mono hb.size)
           have O1 := own_below o1 hbx
           have O2 := own_below o2 hbx
           have O3 := own_below o3 hbx
           have hnews : ∀ j u, ([.int .i64 y])[j]? = some u → X3.cell? ((⟨Y2.heap.size, 0, none⟩ : Addr).add j) = some u := by
             intro j u hu
             rw [addr_add, Nat.zero_add, KN.cell]
             simpa [OpV.cells] using hu
           refine wpList_append_own_at X3 rfl (.tmp 55) (.tmp 64) _ rfl w.heap.size 3 i1 _ 1 8 Try.underlying22 hi1 hy0 hy1 hy2 rfl (by omega) _ k _ rfl O3 ⟨Y2.heap.size, 0, none⟩ 1 1 ([.int .i64 y]) rfl rfl hnews (by simp [OpV.cells, Value.oneCell']) (by unfold maxLen; omega) (by omega) hB2.size ?_
           intro v3n Y3 hown4 hg4 _ hat
           have hbn : Below w.heap.size w Y3 := below_gb hB2 hg4 hB2.size (fun i' hi' => (O3.lt i' hi').1)
           have HB3 := Lib.hid hbn
           have HL3 := Lib.hid (And.intro (row_kept O1 hg4 a13.symm) (And.intro (row_kept O2 hg4 a23.symm) (And.intro hown4 (And.intro a12 (And.intro (apart_kept a13.symm O1 hat).symm (apart_kept a23.symm O2 hat).symm)))))
           skip
           clear hX hb KN hbx hB2 O1 O2 O3 hnews hown4 hg4 hat hbn o1 o2 o3 a12 a13 a23))
      have HLD : Hid (Laid w.heap.size Y3 v1n v2n v3n (k + 1) l) := Lib.hid ⟨by rw [HPS.out, odV_snoc]; exact HL3.out.1, by rw [HSS.out, odV_snoc]; exact HL3.out.2.1, by rw [HRS.out, List.map_append]; exact HL3.out.2.2.1, HL3.out.2.2.2.1, HL3.out.2.2.2.2.1, HL3.out.2.2.2.2.2⟩
      have HB := HB3
      clear e1 e2
      go_roundw
      case rel => exact ⟨k + 1, _, _, _, by simp, rfl, rfl, rfl, by omega, _, rfl, HLD, HB⟩
      case measure => simp [intOf]; omega
    · obtain rfl : k = n := by omega
      obtain ⟨q1, cc1, rfl⟩ := own_slice HL.out.o1
      obtain ⟨q2, cc2, rfl⟩ := own_slice HL.out.o2
      obtain ⟨q3, cc3, rfl⟩ := own_slice HL.out.o3
      have O1 : Ods wr q1 (pus l) := by
        have := Ods.of_own HL.out.o1
        rwa [List.take_of_length_le (by rw [L2.out]; exact Nat.le_refl _)] at this
      have O2 : Ods wr q2 (sen l) := by
        have := Ods.of_own HL.out.o2
        rwa [List.take_of_length_le (by rw [L2.out]; exact Nat.le_refl _)] at this
      have N3 : Nums wr q3 cc3 l.reverse := by
        have := (Nums.of_own HL.out.o3).1
        rwa [List.take_of_length_le (by rw [List.length_reverse, L2.out]; exact Nat.le_refl _)] at this
      have hB := HB.out
      have NH := HN1.out _ hB
      have NL := HN2.out _ hB
      have hdk : decide ((k : Int) < k) = false := by simp
      obtain ⟨m, hm⟩ : ∃ m, m = hn + k := ⟨_, rfl⟩
      have e1 : (hn : Int) + (k : Int) = (m : Int) := by omega
      obtain ⟨m1, hm1⟩ : ∃ x, x = m + 1 := ⟨_, rfl⟩
      have e2 : (m : Int) + 1 = (m1 : Int) := by omega
      have hmm : m1 ≤ 200 := by omega
      have hl1 : (l.reverse ++ had).length = m := by rw [List.length_append, List.length_reverse, L1.out, L2.out]; omega
      have hl2 : (had ++ l).length = m := by rw [List.length_append, L1.out, L2.out]; omega
      have hp1 : (pus l).length = k := by unfold pus; rw [List.length_map, L2.out]
      have hp2 : (sen l).length = k := by unfold sen; rw [List.length_map, L2.out]
      obtain ⟨⟨s1, told1, bs1⟩, hr1⟩ : ∃ r, allC ⟨2, [], had⟩ (pus l) = r := ⟨_, rfl⟩
      obtain ⟨⟨s2, told2, bs2⟩, hr2⟩ : ∃ r, allC ⟨3, [], had⟩ (sen l) = r := ⟨_, rfl⟩
      obtain rfl : s1 = ⟨2, [], l.reverse ++ had⟩ := by have := all_push l had; unfold pus at hr1; rw [hr1] at this; exact this
      obtain rfl : s2 = ⟨3, [], had ++ l⟩ := by have := all_send l had; unfold sen at hr2; rw [hr2] at this; exact this
      have ha1 := all_pops (l.reverse ++ had)
      have ha2 := all_recvs (had ++ l)
      rw [hl1, ← hm1] at ha1
      rw [hl2, ← hm1] at ha2
      have hm0 : m < m1 := by omega
      have h8 : Hid (m1 = m + 1) := Lib.hid hm1
      have h9 : k ≤ 50 := by omega
      clear HL HB hm1 hm
      have HO1 := Lib.hid O1
      have HO2 := Lib.hid O2
      have HN3 := Lib.hid N3
      have HNH := Lib.hid NH
      have HNL := Lib.hid NL
      have HhB := Lib.hid hB
      clear O1 O2 N3 NH NL hB
      go_wp2_with fail
      have O1 := HO1.out
      have O2 := HO2.out
      have N3 := HN3.out
      have NH := HNH.out
      have NL := HNL.out
      have hB := HhB.out
      clear HO1 HO2 HN3 HNH HNL HhB
      refine (all_at ⟨2, [], had⟩ (pus l) k hp1 _ _ _ _ _ hr1 0 hn rfl L1.out _ _ _ _ _ _ _ (Nums.nix _) NH O1 (by omega) (by omega) (by omega) 0 m rfl hl1).mono ?_
      rintro e w21 ⟨kp1, kc1, vp1, vc1, ga1, gb1, rfl, Q1, P1, -, -, hb⟩
      replace O1 := O1.later hb
      replace O2 := O2.later hb
      replace N3 := N3.later hb
      replace NH := NH.later hb
      replace NL := NL.later hb
      replace hB := hB.trans (hb.mono hB.size)
      clear hb
      obtain ⟨V21, hV⟩ : ∃ V, V = w21.alloc (Obj.cells #[.int .i64 2, .slice kp1 0 kc1, .slice vp1 m vc1] 24) := ⟨_, rfl⟩
      have KS : Blk V21 w21.heap.size 24 #[.int .i64 2, .slice kp1 0 kc1, .slice vp1 m vc1] := by rw [hV]; exact Blk.made _ _ _
      have hbv : Below w21.heap.size w21 V21 := by rw [hV]; exact below_alloc1 _ _
      replace O1 := O1.later hbv
      replace O2 := O2.later hbv
      replace N3 := N3.later hbv
      replace NH := NH.later hbv
      replace NL := NL.later hbv
      replace P1 := P1.later hbv
      replace Q1 := Q1.later hbv
      replace hB := hB.trans (hbv.mono hB.size)
      clear hbv
      have HV := Lib.hid hV
      clear hV
      have HO1 := Lib.hid O1
      have HO2 := Lib.hid O2
      have HN3 := Lib.hid N3
      have HNH := Lib.hid NH
      have HNL := Lib.hid NL
      have HP1 := Lib.hid P1
      have HQ1 := Lib.hid Q1
      have HKS := Lib.hid KS
      have HhB := Lib.hid hB
      clear O1 O2 N3 NH NL P1 Q1 KS hB
      go_wp2_with fail
      have O1 := HO1.out
      have O2 := HO2.out
      have N3 := HN3.out
      have NH := HNH.out
      have NL := HNL.out
      have P1 := HP1.out
      have Q1 := HQ1.out
      have KS := HKS.out
      have hB := HhB.out
      clear HO1 HO2 HN3 HNH HNL HP1 HQ1 HKS HhB
      rw [← HV.out]
      clear HV
      refine (all_at ⟨3, [], had⟩ (sen l) k hp2 _ _ _ _ _ hr2 0 hn rfl L1.out _ _ _ _ _ _ _ (Nums.nix _) NH O2 (by omega) (by omega) (by omega) 0 m rfl hl2).mono ?_
      rintro e w22 ⟨kp2, kc2, vp2, vc2, ga2, gb2, rfl, Q2, P2, -, -, hb⟩
      replace O1 := O1.later hb
      replace O2 := O2.later hb
      replace N3 := N3.later hb
      replace NH := NH.later hb
      replace NL := NL.later hb
      replace P1 := P1.later hb
      replace Q1 := Q1.later hb
      replace KS := KS.later hb
      replace hB := hB.trans (hb.mono hB.size)
      clear hb
      have z0 : World.cell? _ ⟨w21.heap.size, 0, none⟩ = some (.int .i64 2) := KS.cell 0
      have z1 : World.cell? _ ⟨w21.heap.size, 1, none⟩ = some (.slice kp1 0 kc1) := KS.cell 1
      have z2 : World.cell? _ ⟨w21.heap.size, 2, none⟩ = some (.slice vp1 m vc1) := KS.cell 2
      have zl := KS.lt
      obtain ⟨V22, hV⟩ : ∃ V, V = w22.alloc (Obj.cells #[.int .i64 3, .slice kp2 0 kc2, .slice vp2 m vc2] 24) := ⟨_, rfl⟩
      have KH : Blk V22 w22.heap.size 24 #[.int .i64 3, .slice kp2 0 kc2, .slice vp2 m vc2] := by rw [hV]; exact Blk.made _ _ _
      have hbv : Below w22.heap.size w22 V22 := by rw [hV]; exact below_alloc1 _ _
      replace O1 := O1.later hbv
      replace O2 := O2.later hbv
      replace N3 := N3.later hbv
      replace NH := NH.later hbv
      replace NL := NL.later hbv
      replace P1 := P1.later hbv
      replace Q1 := Q1.later hbv
      replace KS := KS.later hbv
      replace P2 := P2.later hbv
      replace Q2 := Q2.later hbv
      replace hB := hB.trans (hbv.mono hB.size)
      clear hbv
      have HV := Lib.hid hV
      clear hV
      have HO1 := Lib.hid O1
      have HO2 := Lib.hid O2
      have HN3 := Lib.hid N3
      have HNH := Lib.hid NH
      have HNL := Lib.hid NL
      have HP1 := Lib.hid P1
      have HQ1 := Lib.hid Q1
      have HKS := Lib.hid KS
      have HP2 := Lib.hid P2
      have HQ2 := Lib.hid Q2
      have HKH := Lib.hid KH
      have HhB := Lib.hid hB
      clear O1 O2 N3 NH NL P1 Q1 KS P2 Q2 KH hB
      go_wp2_with fail
      clear z0 z1 z2 zl
      have O1 := HO1.out
      have O2 := HO2.out
      have N3 := HN3.out
      have NH := HNH.out
      have NL := HNL.out
      have P1 := HP1.out
      have Q1 := HQ1.out
      have KS := HKS.out
      have P2 := HP2.out
      have Q2 := HQ2.out
      have KH := HKH.out
      have hB := HhB.out
      clear HO1 HO2 HN3 HNH HNL HP1 HQ1 HKS HP2 HQ2 HKH HhB
      rw [← HV.out]
      clear HV
      have wm1 : IntKind.i64.wrap (m1 : Int) = m1 := by rw [IntKind.wrap_i64]; omega
      have wm0 : IntKind.i64.wrap (m : Int) = m := by rw [IntKind.wrap_i64]; omega
      have HT := Lib.hid fun wx (hx : Below V22.heap.size V22 wx) => takes_any 5 m1 (by omega) wx
      have HAL := Lib.hid fun q9 c9 wx (hx : Below V22.heap.size V22 wx) (ho : Ods wx q9 (List.replicate m1 ⟨5, 0, 0, 0⟩)) => all_fresh ⟨2, [], l.reverse ++ had⟩ (List.replicate m1 ⟨5, 0, 0, 0⟩) m1 (by simp) _ _ _ _ _ ha1 0 m rfl hl1 kp1 vp1 kc1 vc1 q9 c9 wx (Q1.later hx) (P1.later hx) ho (by omega) (by omega) (by omega) 0 0 rfl rfl
      have HZ : Hid (∀ wx, Below V22.heap.size V22 wx → wx.cell? ⟨w21.heap.size, 0, none⟩ = some (.int .i64 2) ∧ wx.cell? ⟨w21.heap.size, 1, none⟩ = some (.slice kp1 0 kc1) ∧ wx.cell? ⟨w21.heap.size, 2, none⟩ = some (.slice vp1 m vc1)) := Lib.hid fun wx hx => ⟨((KS.later hx).cell 0), ((KS.later hx).cell 1), ((KS.later hx).cell 2)⟩
      have HZL : Hid (w21.heap.size < V22.heap.size) := Lib.hid KS.lt
      obtain ⟨z0, z1, z2⟩ := HZ.out _ (Below.refl _ _)
      have zl := HZL.out
      have HO1 := Lib.hid O1
      have HO2 := Lib.hid O2
      have HN3 := Lib.hid N3
      have HNH := Lib.hid NH
      have HNL := Lib.hid NL
      have HP1 := Lib.hid P1
      have HQ1 := Lib.hid Q1
      have HKS := Lib.hid KS
      have HP2 := Lib.hid P2
      have HQ2 := Lib.hid Q2
      have HKH := Lib.hid KH
      have HhB := Lib.hid hB
      clear O1 O2 N3 NH NL P1 Q1 KS P2 Q2 KH hB
      go_cut [17, 18, 19] (fun y s f wx => DPost V22 2 m1 (l.reverse ++ had ++ [0]) (List.replicate m true ++ [false]) y s f wx)
      case first =>
        refine wp_region_noPanic ?_
        refine wp_region_held (S := fun wx => Below V22.heap.size V22 wx) (by kernel_rfl) ?_
        change wpAnyH _ _ _ _ _ _ _ _ (World.drew _)
        refine takeH_n (i := 0) (v := ?v1) rfl (by kernel_rfl) (by kernel_rfl) (by kernel_rfl) (fun _ _ _ h => h) (Or.inl ⟨by rfl, ?hy1⟩) ?hS1 (fun a' ha => ?rest1)
        case hy1 => (intro w hS; obtain ⟨z0, z1, z2⟩ := HZ.out w hS; go_simp; try with_reducible rfl)
        case hS1 => exact (by show Below _ _ _; repeat (first | exact Below.refl _ _ | assumption | refine bel_drew ?_ | refine bel_alloc ?_ _ | refine bel_set ?_ _ _ _ (by first | exact Nat.le_refl _ | assumption)))
        simp [go_sem] at ha
        subst ha
        refine takeH_n (i := 1) (v := ?v2) rfl (by kernel_rfl) (by kernel_rfl) (by kernel_rfl) (fun _ _ _ h => h) (Or.inl ⟨by rfl, ?hy2⟩) ?hS2 (fun a' ha => ?rest2)
        case hy2 => (intro w hS; go_simp; try with_reducible rfl)
        case hS2 => exact (by show Below _ _ _; repeat (first | exact Below.refl _ _ | assumption | refine bel_drew ?_ | refine bel_alloc ?_ _ | refine bel_set ?_ _ _ _ (by first | exact Nat.le_refl _ | assumption)))
        simp [go_sem] at ha
        subst ha
        refine takeH_n (i := 2) (v := ?v3) rfl (by kernel_rfl) (by kernel_rfl) (by kernel_rfl) (fun _ _ _ h => h) (Or.inl ⟨by rfl, ?hy3⟩) ?hS3 (fun a' ha => ?rest3)
        case hy3 => (intro w hS; go_simp; try with_reducible rfl)
        case hS3 => exact (by show Below _ _ _; repeat (first | exact Below.refl _ _ | assumption | refine bel_drew ?_ | refine bel_alloc ?_ _ | refine bel_set ?_ _ _ _ (by first | exact Nat.le_refl _ | assumption)))
        simp [go_sem] at ha
        subst ha
        refine anyH_two (i := 3) (k := 9) rfl rfl (by kernel_rfl) (fun K hK => ?_) (fun K hK => ?_)
        · go_simp
          refine (HT.out _ (by repeat (first | exact Below.refl _ _ | assumption | refine bel_drew ?_ | refine bel_alloc ?_ _))).mono ?_
          rintro e w31 ⟨q9, c9, rfl, O9, b31, -⟩
          have b31w := below_of V22 b31 (by repeat (first | exact Below.refl _ _ | assumption | refine bel_drew ?_ | refine bel_alloc ?_ _))
          have HO9 := Lib.hid O9
          clear O9
          refine hK.out _ _ (by show Below _ _ _; repeat (first | exact Below.refl _ _ | assumption | refine bel_drew ?_ | refine bel_alloc ?_ _ | refine bel_set ?_ _ _ _ (by first | exact Nat.le_refl _ | assumption))) ?_
          clear hK K
          refine anyH_two (i := 4) (k := 9) rfl rfl (by kernel_rfl) (fun K hK => ?_) (fun K hK => ?_)
          · go_simp
            refine (HAL.out q9 c9 _ (by repeat (first | exact Below.refl _ _ | assumption | refine bel_drew ?_ | refine bel_alloc ?_ _)) (HO9.out.later (by repeat (first | exact Below.refl _ _ | assumption | refine bel_drew ?_ | refine bel_alloc ?_ _)))).mono ?_
            rintro e w32 ⟨kp9, kc9, vp9, vc9, ga9, gb9, rfl, -, -, T9, B9, b32, f1, f2⟩
            have b32w := below_of V22 b32 (by repeat (first | exact Below.refl _ _ | assumption | refine bel_drew ?_ | refine bel_alloc ?_ _))
            have HT9 := Lib.hid T9
            have HB9 := Lib.hid B9
            clear T9 B9 f1 f2
            refine hK.out _ _ (by show Below _ _ _; repeat (first | exact Below.refl _ _ | assumption | refine bel_drew ?_ | refine bel_alloc ?_ _ | refine bel_set ?_ _ _ _ (by first | exact Nat.le_refl _ | assumption))) ?_
            clear hK K
            refine takeH_n (i := 5) (v := ?v4) rfl (by kernel_rfl) (by kernel_rfl) (by kernel_rfl) (fun _ _ _ h => h) (Or.inl ⟨by rfl, ?hy4⟩) ?hS4 (fun a' ha => ?rest4)
            case hy4 => (intro w hS; go_simp; try with_reducible rfl)
            case hS4 => exact (by show Below _ _ _; repeat (first | exact Below.refl _ _ | assumption | refine bel_drew ?_ | refine bel_alloc ?_ _ | refine bel_set ?_ _ _ _ (by first | exact Nat.le_refl _ | assumption)))
            simp [go_sem] at ha
            subst ha
            refine takeH_n (i := 6) (v := ?v5) rfl (by kernel_rfl) (by kernel_rfl) (by kernel_rfl) (fun _ _ _ h => h) (Or.inl ⟨by rfl, ?hy5⟩) ?hS5 (fun a' ha => ?rest5)
            case hy5 => (intro w hS; go_simp; try with_reducible rfl)
            case hS5 => exact (by show Below _ _ _; repeat (first | exact Below.refl _ _ | assumption | refine bel_drew ?_ | refine bel_alloc ?_ _ | refine bel_set ?_ _ _ _ (by first | exact Nat.le_refl _ | assumption)))
            simp [go_sem] at ha
            subst ha
            refine takeH_n (i := 7) (v := ?v6) rfl (by kernel_rfl) (by kernel_rfl) (by kernel_rfl) (fun _ _ _ h => h) (Or.inl ⟨by rfl, ?hy6⟩) ?hS6 (fun a' ha => ?rest6)
            case hy6 => (intro w hS; go_simp; try with_reducible rfl)
            case hS6 => exact (by show Below _ _ _; repeat (first | exact Below.refl _ _ | assumption | refine bel_drew ?_ | refine bel_alloc ?_ _ | refine bel_set ?_ _ _ _ (by first | exact Nat.le_refl _ | assumption)))
            simp [go_sem] at ha
            subst ha
            refine takeH_n (i := 8) (v := ?v7) rfl (by kernel_rfl) (by kernel_rfl) (by kernel_rfl) (fun _ _ _ h => h) (Or.inl ⟨by rfl, ?hy7⟩) ?hS7 (fun a' ha => ?rest7)
            case hy7 => (intro w hS; go_simp; try with_reducible rfl)
            case hS7 => exact (by show Below _ _ _; repeat (first | exact Below.refl _ _ | assumption | refine bel_drew ?_ | refine bel_alloc ?_ _ | refine bel_set ?_ _ _ _ (by first | exact Nat.le_refl _ | assumption)))
            simp [go_sem] at ha
            subst ha
            refine anyH_one (i := 9) rfl (by kernel_rfl) (fun K hK => ?_)
            go_simp
            refine hK.out _ _ (by show Below _ _ _; repeat (first | exact Below.refl _ _ | assumption | refine bel_drew ?_ | refine bel_alloc ?_ _ | refine bel_set ?_ _ _ _ (by first | exact Nat.le_refl _ | assumption))) ?_
            clear hK K
            refine anyH_one (i := 10) rfl (by kernel_rfl) (fun K hK => ?_)
            go_simp
            refine hK.out _ _ (by show Below _ _ _; repeat (first | exact Below.refl _ _ | assumption | refine bel_drew ?_ | refine bel_alloc ?_ _ | refine bel_set ?_ _ _ _ (by first | exact Nat.le_refl _ | assumption))) ?_
            clear hK K
            refine takeH_n (i := 11) (v := ?v8) rfl (by kernel_rfl) (by kernel_rfl) (by kernel_rfl) (fun _ _ _ h => h) (Or.inl ⟨by rfl, ?hy8⟩) ?hS8 (fun a' ha => ?rest8)
            case hy8 => (intro w hS; go_simp; try with_reducible rfl)
            case hS8 => exact (by show Below _ _ _; repeat (first | exact Below.refl _ _ | assumption | refine bel_drew ?_ | refine bel_alloc ?_ _ | refine bel_set ?_ _ _ _ (by first | exact Nat.le_refl _ | assumption)))
            simp [go_sem] at ha
            subst ha
            refine takeH_n (i := 12) (v := ?v9) rfl (by kernel_rfl) (by kernel_rfl) (by kernel_rfl) (fun _ _ _ h => h) (Or.inl ⟨by rfl, ?hy9⟩) ?hS9 (fun a' ha => ?rest9)
            case hy9 => (intro w hS; go_simp; try with_reducible rfl)
            case hS9 => exact (by show Below _ _ _; repeat (first | exact Below.refl _ _ | assumption | refine bel_drew ?_ | refine bel_alloc ?_ _ | refine bel_set ?_ _ _ _ (by first | exact Nat.le_refl _ | assumption)))
            simp [go_sem] at ha
            subst ha
            refine wpAnyH_done (by kernel_rfl) ?_ _
            refine NoPanic.normal ?_
            go_wp2_with fail
            go_meet
            exact DPost.behind b32w HT9.out HB9.out
          · go_simp
            refine hK.out _ _ (by show Below _ _ _; repeat (first | exact Below.refl _ _ | assumption | refine bel_drew ?_ | refine bel_alloc ?_ _ | refine bel_set ?_ _ _ _ (by first | exact Nat.le_refl _ | assumption))) ?_
            clear hK K
            have KA : Blk (World.alloc w31 (Obj.cells #[.int .i64 0, .slice none 0 0, .slice none 0 0] 24)) w31.heap.size 24 #[.int .i64 0, .slice none 0 0, .slice none 0 0] := Blk.made w31 _ _
            have hVb : V22.heap.size ≤ w31.heap.size := b31w.size
            refine anyH_one (i := 4) rfl (by kernel_rfl) (fun K hK => ?_)
            go_simp
            refine (HAL.out q9 c9 _ (by repeat (first | exact Below.refl _ _ | assumption | refine bel_drew ?_ | refine bel_alloc ?_ _)) (HO9.out.later (by repeat (first | exact Below.refl _ _ | assumption | refine bel_drew ?_ | refine bel_alloc ?_ _)))).mono ?_
            rintro e w32 ⟨kp9, kc9, vp9, vc9, ga9, gb9, rfl, -, -, T9, B9, b32, f1, f2⟩
            have b32w := below_of V22 b32 (by repeat (first | exact Below.refl _ _ | assumption | refine bel_drew ?_ | refine bel_alloc ?_ _))
            have HT9 := Lib.hid T9
            have HB9 := Lib.hid B9
            have fa := Nat.lt_of_lt_of_le (Blk.lt (h := by exact KA)) f1
            have fb := Nat.lt_of_lt_of_le (Blk.lt (h := by exact KA)) f2
            have KA := Blk.later (h := by exact KA) b32
            clear T9 B9 f1 f2
            refine hK.out _ _ (by show Below _ _ _; repeat (first | exact Below.refl _ _ | assumption | refine bel_drew ?_ | refine bel_alloc ?_ _ | refine bel_set ?_ _ _ _ (by first | exact Nat.le_refl _ | assumption))) ?_
            clear hK K
            refine takeH_n (i := 5) (v := ?v10) rfl (by kernel_rfl) (by kernel_rfl) (by kernel_rfl) (fun _ _ _ h => h) (Or.inl ⟨by rfl, ?hy10⟩) ?hS10 (fun a' ha => ?rest10)
            case hy10 => (intro w hS; go_simp; try with_reducible rfl)
            case hS10 => exact (by show Below _ _ _; repeat (first | exact Below.refl _ _ | assumption | refine bel_drew ?_ | refine bel_alloc ?_ _ | refine bel_set ?_ _ _ _ (by first | exact Nat.le_refl _ | assumption)))
            simp [go_sem] at ha
            subst ha
            refine takeH_n (i := 6) (v := ?v11) rfl (by kernel_rfl) (by kernel_rfl) (by kernel_rfl) (fun _ _ _ h => h) (Or.inl ⟨by rfl, ?hy11⟩) ?hS11 (fun a' ha => ?rest11)
            case hy11 => (intro w hS; go_simp; try with_reducible rfl)
            case hS11 => exact (by show Below _ _ _; repeat (first | exact Below.refl _ _ | assumption | refine bel_drew ?_ | refine bel_alloc ?_ _ | refine bel_set ?_ _ _ _ (by first | exact Nat.le_refl _ | assumption)))
            simp [go_sem] at ha
            subst ha
            refine takeH_n (i := 7) (v := ?v12) rfl (by kernel_rfl) (by kernel_rfl) (by kernel_rfl) (fun _ _ _ h => h) (Or.inl ⟨by rfl, ?hy12⟩) ?hS12 (fun a' ha => ?rest12)
            case hy12 => (intro w hS; go_simp; try with_reducible rfl)
            case hS12 => exact (by show Below _ _ _; repeat (first | exact Below.refl _ _ | assumption | refine bel_drew ?_ | refine bel_alloc ?_ _ | refine bel_set ?_ _ _ _ (by first | exact Nat.le_refl _ | assumption)))
            simp [go_sem] at ha
            subst ha
            refine takeH_n (i := 8) (v := ?v13) rfl (by kernel_rfl) (by kernel_rfl) (by kernel_rfl) (fun _ _ _ h => h) (Or.inl ⟨by rfl, ?hy13⟩) ?hS13 (fun a' ha => ?rest13)
            case hy13 => (intro w hS; go_simp; try with_reducible rfl)
            case hS13 => exact (by show Below _ _ _; repeat (first | exact Below.refl _ _ | assumption | refine bel_drew ?_ | refine bel_alloc ?_ _ | refine bel_set ?_ _ _ _ (by first | exact Nat.le_refl _ | assumption)))
            simp [go_sem] at ha
            subst ha
            have y0 := KA.cell 0
            have y1 := KA.cell 1
            have y2 := KA.cell 2
            have x0 := KA.free 0
            have x1 := KA.free 1
            have x2 := KA.free 2
            refine anyH_one (i := 10) rfl (by kernel_rfl) (fun K hK => ?_)
            go_simp
            refine hK.out _ _ (by show Below _ _ _; repeat (first | exact Below.refl _ _ | assumption | refine bel_drew ?_ | refine bel_alloc ?_ _ | refine bel_set ?_ _ _ _ (by first | exact Nat.le_refl _ | assumption))) ?_
            clear hK K
            refine takeH_n (i := 11) (v := ?v14) rfl (by kernel_rfl) (by kernel_rfl) (by kernel_rfl) (fun _ _ _ h => h) (Or.inl ⟨by rfl, ?hy14⟩) ?hS14 (fun a' ha => ?rest14)
            case hy14 => (intro w hS; go_simp; try with_reducible rfl)
            case hS14 => exact (by show Below _ _ _; repeat (first | exact Below.refl _ _ | assumption | refine bel_drew ?_ | refine bel_alloc ?_ _ | refine bel_set ?_ _ _ _ (by first | exact Nat.le_refl _ | assumption)))
            simp [go_sem] at ha
            subst ha
            refine takeH_n (i := 12) (v := ?v15) rfl (by kernel_rfl) (by kernel_rfl) (by kernel_rfl) (fun _ _ _ h => h) (Or.inl ⟨by rfl, ?hy15⟩) ?hS15 (fun a' ha => ?rest15)
            case hy15 => (intro w hS; go_simp; try with_reducible rfl)
            case hS15 => exact (by show Below _ _ _; repeat (first | exact Below.refl _ _ | assumption | refine bel_drew ?_ | refine bel_alloc ?_ _ | refine bel_set ?_ _ _ _ (by first | exact Nat.le_refl _ | assumption)))
            simp [go_sem] at ha
            subst ha
            refine wpAnyH_done (by kernel_rfl) ?_ _
            refine NoPanic.normal ?_
            go_wp2_with fail
            go_meet
            exact DPost.ahead hVb KA b32w fa fb HT9.out HB9.out
        · go_simp
          refine hK.out _ _ (by show Below _ _ _; repeat (first | exact Below.refl _ _ | assumption | refine bel_drew ?_ | refine bel_alloc ?_ _ | refine bel_set ?_ _ _ _ (by first | exact Nat.le_refl _ | assumption))) ?_
          clear hK K
          have KA : Blk (World.alloc V22 (Obj.cells #[.int .i64 0, .slice none 0 0, .slice none 0 0] 24)) V22.heap.size 24 #[.int .i64 0, .slice none 0 0, .slice none 0 0] := Blk.made V22 _ _
          have hVb : V22.heap.size ≤ V22.heap.size := Nat.le_refl _
          refine anyH_one (i := 3) rfl (by kernel_rfl) (fun K hK => ?_)
          go_simp
          refine (HT.out _ (by repeat (first | exact Below.refl _ _ | assumption | refine bel_drew ?_ | refine bel_alloc ?_ _))).mono ?_
          rintro e w31 ⟨q9, c9, rfl, O9, b31, -⟩
          have b31w := below_of V22 b31 (by repeat (first | exact Below.refl _ _ | assumption | refine bel_drew ?_ | refine bel_alloc ?_ _))
          have HO9 := Lib.hid O9
          clear O9
          have KA := Blk.later (h := by exact KA) b31
          refine hK.out _ _ (by show Below _ _ _; repeat (first | exact Below.refl _ _ | assumption | refine bel_drew ?_ | refine bel_alloc ?_ _ | refine bel_set ?_ _ _ _ (by first | exact Nat.le_refl _ | assumption))) ?_
          clear hK K
          refine anyH_one (i := 4) rfl (by kernel_rfl) (fun K hK => ?_)
          go_simp
          refine (HAL.out q9 c9 _ (by repeat (first | exact Below.refl _ _ | assumption | refine bel_drew ?_ | refine bel_alloc ?_ _)) (HO9.out.later (by repeat (first | exact Below.refl _ _ | assumption | refine bel_drew ?_ | refine bel_alloc ?_ _)))).mono ?_
          rintro e w32 ⟨kp9, kc9, vp9, vc9, ga9, gb9, rfl, -, -, T9, B9, b32, f1, f2⟩
          have b32w := below_of V22 b32 (by repeat (first | exact Below.refl _ _ | assumption | refine bel_drew ?_ | refine bel_alloc ?_ _))
          have HT9 := Lib.hid T9
          have HB9 := Lib.hid B9
          have fa := Nat.lt_of_lt_of_le (Blk.lt (h := by exact KA)) f1
          have fb := Nat.lt_of_lt_of_le (Blk.lt (h := by exact KA)) f2
          have KA := Blk.later (h := by exact KA) b32
          clear T9 B9 f1 f2
          refine hK.out _ _ (by show Below _ _ _; repeat (first | exact Below.refl _ _ | assumption | refine bel_drew ?_ | refine bel_alloc ?_ _ | refine bel_set ?_ _ _ _ (by first | exact Nat.le_refl _ | assumption))) ?_
          clear hK K
          refine takeH_n (i := 5) (v := ?v16) rfl (by kernel_rfl) (by kernel_rfl) (by kernel_rfl) (fun _ _ _ h => h) (Or.inl ⟨by rfl, ?hy16⟩) ?hS16 (fun a' ha => ?rest16)
          case hy16 => (intro w hS; go_simp; try with_reducible rfl)
          case hS16 => exact (by show Below _ _ _; repeat (first | exact Below.refl _ _ | assumption | refine bel_drew ?_ | refine bel_alloc ?_ _ | refine bel_set ?_ _ _ _ (by first | exact Nat.le_refl _ | assumption)))
          simp [go_sem] at ha
          subst ha
          refine takeH_n (i := 6) (v := ?v17) rfl (by kernel_rfl) (by kernel_rfl) (by kernel_rfl) (fun _ _ _ h => h) (Or.inl ⟨by rfl, ?hy17⟩) ?hS17 (fun a' ha => ?rest17)
          case hy17 => (intro w hS; go_simp; try with_reducible rfl)
          case hS17 => exact (by show Below _ _ _; repeat (first | exact Below.refl _ _ | assumption | refine bel_drew ?_ | refine bel_alloc ?_ _ | refine bel_set ?_ _ _ _ (by first | exact Nat.le_refl _ | assumption)))
          simp [go_sem] at ha
          subst ha
          refine takeH_n (i := 7) (v := ?v18) rfl (by kernel_rfl) (by kernel_rfl) (by kernel_rfl) (fun _ _ _ h => h) (Or.inl ⟨by rfl, ?hy18⟩) ?hS18 (fun a' ha => ?rest18)
          case hy18 => (intro w hS; go_simp; try with_reducible rfl)
          case hS18 => exact (by show Below _ _ _; repeat (first | exact Below.refl _ _ | assumption | refine bel_drew ?_ | refine bel_alloc ?_ _ | refine bel_set ?_ _ _ _ (by first | exact Nat.le_refl _ | assumption)))
          simp [go_sem] at ha
          subst ha
          refine takeH_n (i := 8) (v := ?v19) rfl (by kernel_rfl) (by kernel_rfl) (by kernel_rfl) (fun _ _ _ h => h) (Or.inl ⟨by rfl, ?hy19⟩) ?hS19 (fun a' ha => ?rest19)
          case hy19 => (intro w hS; go_simp; try with_reducible rfl)
          case hS19 => exact (by show Below _ _ _; repeat (first | exact Below.refl _ _ | assumption | refine bel_drew ?_ | refine bel_alloc ?_ _ | refine bel_set ?_ _ _ _ (by first | exact Nat.le_refl _ | assumption)))
          simp [go_sem] at ha
          subst ha
          have y0 := KA.cell 0
          have y1 := KA.cell 1
          have y2 := KA.cell 2
          have x0 := KA.free 0
          have x1 := KA.free 1
          have x2 := KA.free 2
          refine anyH_one (i := 10) rfl (by kernel_rfl) (fun K hK => ?_)
          go_simp
          refine hK.out _ _ (by show Below _ _ _; repeat (first | exact Below.refl _ _ | assumption | refine bel_drew ?_ | refine bel_alloc ?_ _ | refine bel_set ?_ _ _ _ (by first | exact Nat.le_refl _ | assumption))) ?_
          clear hK K
          refine takeH_n (i := 11) (v := ?v20) rfl (by kernel_rfl) (by kernel_rfl) (by kernel_rfl) (fun _ _ _ h => h) (Or.inl ⟨by rfl, ?hy20⟩) ?hS20 (fun a' ha => ?rest20)
          case hy20 => (intro w hS; go_simp; try with_reducible rfl)
          case hS20 => exact (by show Below _ _ _; repeat (first | exact Below.refl _ _ | assumption | refine bel_drew ?_ | refine bel_alloc ?_ _ | refine bel_set ?_ _ _ _ (by first | exact Nat.le_refl _ | assumption)))
          simp [go_sem] at ha
          subst ha
          refine takeH_n (i := 12) (v := ?v21) rfl (by kernel_rfl) (by kernel_rfl) (by kernel_rfl) (fun _ _ _ h => h) (Or.inl ⟨by rfl, ?hy21⟩) ?hS21 (fun a' ha => ?rest21)
          case hy21 => (intro w hS; go_simp; try with_reducible rfl)
          case hS21 => exact (by show Below _ _ _; repeat (first | exact Below.refl _ _ | assumption | refine bel_drew ?_ | refine bel_alloc ?_ _ | refine bel_set ?_ _ _ _ (by first | exact Nat.le_refl _ | assumption)))
          simp [go_sem] at ha
          subst ha
          refine wpAnyH_done (by kernel_rfl) ?_ _
          refine NoPanic.normal ?_
          go_wp2_with fail
          go_meet
          exact DPost.ahead hVb KA b32w fa fb HT9.out HB9.out
      case rest =>
        obtain ⟨w33, hwc⟩ : ∃ wy, wy = wc := ⟨_, rfl⟩
        obtain ⟨b3, kp3, kc3, vp3, vc3, ga3, gb3, rfl, rfl, rfl, KX, T3, B3, hb⟩ := hcut
        rw [← hwc] at KX T3 B3 hb ⊢
        clear hwc HT HAL HZ HZL z0 z1 z2 zl
        have O1 := HO1.out
        have O2 := HO2.out
        have N3 := HN3.out
        have NH := HNH.out
        have NL := HNL.out
        have P1 := HP1.out
        have Q1 := HQ1.out
        have KS := HKS.out
        have P2 := HP2.out
        have Q2 := HQ2.out
        have KH := HKH.out
        have hB := HhB.out
        clear HO1 HO2 HN3 HNH HNL HP1 HQ1 HKS HP2 HQ2 HKH HhB
        replace O1 := O1.later hb
        replace O2 := O2.later hb
        replace N3 := N3.later hb
        replace NH := NH.later hb
        replace NL := NL.later hb
        replace P1 := P1.later hb
        replace Q1 := Q1.later hb
        replace KS := KS.later hb
        replace P2 := P2.later hb
        replace Q2 := Q2.later hb
        replace KH := KH.later hb
        replace hB := hB.trans (hb.mono hB.size)
        clear hb
        have HO1 := Lib.hid O1
        have HO2 := Lib.hid O2
        have HN3 := Lib.hid N3
        have HNH := Lib.hid NH
        have HNL := Lib.hid NL
        have HP1 := Lib.hid P1
        have HQ1 := Lib.hid Q1
        have HKS := Lib.hid KS
        have HP2 := Lib.hid P2
        have HQ2 := Lib.hid Q2
        have HKH := Lib.hid KH
        have HKX := Lib.hid KX
        have HT3 := Lib.hid T3
        have HB3 := Lib.hid B3
        have HhB := Lib.hid hB
        clear O1 O2 N3 NH NL P1 Q1 KS P2 Q2 KH KX T3 B3 hB
        go_wp2_with fail
        have O1 := HO1.out
        have O2 := HO2.out
        have N3 := HN3.out
        have NH := HNH.out
        have NL := HNL.out
        have P1 := HP1.out
        have Q1 := HQ1.out
        have KS := HKS.out
        have P2 := HP2.out
        have Q2 := HQ2.out
        have KH := HKH.out
        have KX := HKX.out
        have T3 := HT3.out
        have B3 := HB3.out
        have hB := HhB.out
        clear HO1 HO2 HN3 HNH HNL HP1 HQ1 HKS HP2 HQ2 HKH HKX HT3 HB3 HhB
        have HT := Lib.hid fun wx (hx : Below w33.heap.size w33 wx) => takes_any 7 m1 (by omega) wx
        have HAL := Lib.hid fun q9 c9 wx (hx : Below w33.heap.size w33 wx) (ho : Ods wx q9 (List.replicate m1 ⟨7, 0, 0, 0⟩)) => all_fresh ⟨3, [], had ++ l⟩ (List.replicate m1 ⟨7, 0, 0, 0⟩) m1 (by simp) _ _ _ _ _ ha2 0 m rfl hl2 kp2 vp2 kc2 vc2 q9 c9 wx (Q2.later hx) (P2.later hx) ho (by omega) (by omega) (by omega) 0 0 rfl rfl
        have HZ : Hid (∀ wx, Below w33.heap.size w33 wx → wx.cell? ⟨w22.heap.size, 0, none⟩ = some (.int .i64 3) ∧ wx.cell? ⟨w22.heap.size, 1, none⟩ = some (.slice kp2 0 kc2) ∧ wx.cell? ⟨w22.heap.size, 2, none⟩ = some (.slice vp2 m vc2)) := Lib.hid fun wx hx => ⟨((KH.later hx).cell 0), ((KH.later hx).cell 1), ((KH.later hx).cell 2)⟩
        have HZL : Hid (w22.heap.size < w33.heap.size) := Lib.hid KH.lt
        obtain ⟨z0, z1, z2⟩ := HZ.out _ (Below.refl _ _)
        have zl := HZL.out
        have HO1 := Lib.hid O1
        have HO2 := Lib.hid O2
        have HN3 := Lib.hid N3
        have HNH := Lib.hid NH
        have HNL := Lib.hid NL
        have HP1 := Lib.hid P1
        have HQ1 := Lib.hid Q1
        have HKS := Lib.hid KS
        have HP2 := Lib.hid P2
        have HQ2 := Lib.hid Q2
        have HKH := Lib.hid KH
        have HKX := Lib.hid KX
        have HT3 := Lib.hid T3
        have HB3 := Lib.hid B3
        have HhB := Lib.hid hB
        clear O1 O2 N3 NH NL P1 Q1 KS P2 Q2 KH KX T3 B3 hB
        go_cut [20, 21, 22] (fun y s f wx => DPost w33 3 m1 (had ++ l ++ [0]) (List.replicate m true ++ [false]) y s f wx)
        case first =>
          refine wp_region_noPanic ?_
          refine wp_region_held (S := fun wx => Below w33.heap.size w33 wx) (by kernel_rfl) ?_
          change wpAnyH _ _ _ _ _ _ _ _ (World.drew _)
          refine takeH_n (i := 0) (v := ?v22) rfl (by kernel_rfl) (by kernel_rfl) (by kernel_rfl) (fun _ _ _ h => h) (Or.inl ⟨by rfl, ?hy22⟩) ?hS22 (fun a' ha => ?rest22)
          case hy22 => (intro w hS; obtain ⟨z0, z1, z2⟩ := HZ.out w hS; go_simp; try with_reducible rfl)
          case hS22 => exact (by show Below _ _ _; repeat (first | exact Below.refl _ _ | assumption | refine bel_drew ?_ | refine bel_alloc ?_ _ | refine bel_set ?_ _ _ _ (by first | exact Nat.le_refl _ | assumption)))
          simp [go_sem] at ha
          subst ha
          refine takeH_n (i := 1) (v := ?v23) rfl (by kernel_rfl) (by kernel_rfl) (by kernel_rfl) (fun _ _ _ h => h) (Or.inl ⟨by rfl, ?hy23⟩) ?hS23 (fun a' ha => ?rest23)
          case hy23 => (intro w hS; go_simp; try with_reducible rfl)
          case hS23 => exact (by show Below _ _ _; repeat (first | exact Below.refl _ _ | assumption | refine bel_drew ?_ | refine bel_alloc ?_ _ | refine bel_set ?_ _ _ _ (by first | exact Nat.le_refl _ | assumption)))
          simp [go_sem] at ha
          subst ha
          refine takeH_n (i := 2) (v := ?v24) rfl (by kernel_rfl) (by kernel_rfl) (by kernel_rfl) (fun _ _ _ h => h) (Or.inl ⟨by rfl, ?hy24⟩) ?hS24 (fun a' ha => ?rest24)
          case hy24 => (intro w hS; go_simp; try with_reducible rfl)
          case hS24 => exact (by show Below _ _ _; repeat (first | exact Below.refl _ _ | assumption | refine bel_drew ?_ | refine bel_alloc ?_ _ | refine bel_set ?_ _ _ _ (by first | exact Nat.le_refl _ | assumption)))
          simp [go_sem] at ha
          subst ha
          refine anyH_two (i := 3) (k := 9) rfl rfl (by kernel_rfl) (fun K hK => ?_) (fun K hK => ?_)
          · go_simp
            refine (HT.out _ (by repeat (first | exact Below.refl _ _ | assumption | refine bel_drew ?_ | refine bel_alloc ?_ _))).mono ?_
            rintro e w31 ⟨q9, c9, rfl, O9, b31, -⟩
            have b31w := below_of w33 b31 (by repeat (first | exact Below.refl _ _ | assumption | refine bel_drew ?_ | refine bel_alloc ?_ _))
            have HO9 := Lib.hid O9
            clear O9
            refine hK.out _ _ (by show Below _ _ _; repeat (first | exact Below.refl _ _ | assumption | refine bel_drew ?_ | refine bel_alloc ?_ _ | refine bel_set ?_ _ _ _ (by first | exact Nat.le_refl _ | assumption))) ?_
            clear hK K
            refine anyH_two (i := 4) (k := 9) rfl rfl (by kernel_rfl) (fun K hK => ?_) (fun K hK => ?_)
            · go_simp
              refine (HAL.out q9 c9 _ (by repeat (first | exact Below.refl _ _ | assumption | refine bel_drew ?_ | refine bel_alloc ?_ _)) (HO9.out.later (by repeat (first | exact Below.refl _ _ | assumption | refine bel_drew ?_ | refine bel_alloc ?_ _)))).mono ?_
              rintro e w32 ⟨kp9, kc9, vp9, vc9, ga9, gb9, rfl, -, -, T9, B9, b32, f1, f2⟩
              have b32w := below_of w33 b32 (by repeat (first | exact Below.refl _ _ | assumption | refine bel_drew ?_ | refine bel_alloc ?_ _))
              have HT9 := Lib.hid T9
              have HB9 := Lib.hid B9
              clear T9 B9 f1 f2
              refine hK.out _ _ (by show Below _ _ _; repeat (first | exact Below.refl _ _ | assumption | refine bel_drew ?_ | refine bel_alloc ?_ _ | refine bel_set ?_ _ _ _ (by first | exact Nat.le_refl _ | assumption))) ?_
              clear hK K
              refine takeH_n (i := 5) (v := ?v25) rfl (by kernel_rfl) (by kernel_rfl) (by kernel_rfl) (fun _ _ _ h => h) (Or.inl ⟨by rfl, ?hy25⟩) ?hS25 (fun a' ha => ?rest25)
              case hy25 => (intro w hS; go_simp; try with_reducible rfl)
              case hS25 => exact (by show Below _ _ _; repeat (first | exact Below.refl _ _ | assumption | refine bel_drew ?_ | refine bel_alloc ?_ _ | refine bel_set ?_ _ _ _ (by first | exact Nat.le_refl _ | assumption)))
              simp [go_sem] at ha
              subst ha
              refine takeH_n (i := 6) (v := ?v26) rfl (by kernel_rfl) (by kernel_rfl) (by kernel_rfl) (fun _ _ _ h => h) (Or.inl ⟨by rfl, ?hy26⟩) ?hS26 (fun a' ha => ?rest26)
              case hy26 => (intro w hS; go_simp; try with_reducible rfl)
              case hS26 => exact (by show Below _ _ _; repeat (first | exact Below.refl _ _ | assumption | refine bel_drew ?_ | refine bel_alloc ?_ _ | refine bel_set ?_ _ _ _ (by first | exact Nat.le_refl _ | assumption)))
              simp [go_sem] at ha
              subst ha
              refine takeH_n (i := 7) (v := ?v27) rfl (by kernel_rfl) (by kernel_rfl) (by kernel_rfl) (fun _ _ _ h => h) (Or.inl ⟨by rfl, ?hy27⟩) ?hS27 (fun a' ha => ?rest27)
              case hy27 => (intro w hS; go_simp; try with_reducible rfl)
              case hS27 => exact (by show Below _ _ _; repeat (first | exact Below.refl _ _ | assumption | refine bel_drew ?_ | refine bel_alloc ?_ _ | refine bel_set ?_ _ _ _ (by first | exact Nat.le_refl _ | assumption)))
              simp [go_sem] at ha
              subst ha
              refine takeH_n (i := 8) (v := ?v28) rfl (by kernel_rfl) (by kernel_rfl) (by kernel_rfl) (fun _ _ _ h => h) (Or.inl ⟨by rfl, ?hy28⟩) ?hS28 (fun a' ha => ?rest28)
              case hy28 => (intro w hS; go_simp; try with_reducible rfl)
              case hS28 => exact (by show Below _ _ _; repeat (first | exact Below.refl _ _ | assumption | refine bel_drew ?_ | refine bel_alloc ?_ _ | refine bel_set ?_ _ _ _ (by first | exact Nat.le_refl _ | assumption)))
              simp [go_sem] at ha
              subst ha
              refine anyH_one (i := 9) rfl (by kernel_rfl) (fun K hK => ?_)
              go_simp
              refine hK.out _ _ (by show Below _ _ _; repeat (first | exact Below.refl _ _ | assumption | refine bel_drew ?_ | refine bel_alloc ?_ _ | refine bel_set ?_ _ _ _ (by first | exact Nat.le_refl _ | assumption))) ?_
              clear hK K
              refine anyH_one (i := 10) rfl (by kernel_rfl) (fun K hK => ?_)
              go_simp
              refine hK.out _ _ (by show Below _ _ _; repeat (first | exact Below.refl _ _ | assumption | refine bel_drew ?_ | refine bel_alloc ?_ _ | refine bel_set ?_ _ _ _ (by first | exact Nat.le_refl _ | assumption))) ?_
              clear hK K
              refine takeH_n (i := 11) (v := ?v29) rfl (by kernel_rfl) (by kernel_rfl) (by kernel_rfl) (fun _ _ _ h => h) (Or.inl ⟨by rfl, ?hy29⟩) ?hS29 (fun a' ha => ?rest29)
              case hy29 => (intro w hS; go_simp; try with_reducible rfl)
              case hS29 => exact (by show Below _ _ _; repeat (first | exact Below.refl _ _ | assumption | refine bel_drew ?_ | refine bel_alloc ?_ _ | refine bel_set ?_ _ _ _ (by first | exact Nat.le_refl _ | assumption)))
              simp [go_sem] at ha
              subst ha
              refine takeH_n (i := 12) (v := ?v30) rfl (by kernel_rfl) (by kernel_rfl) (by kernel_rfl) (fun _ _ _ h => h) (Or.inl ⟨by rfl, ?hy30⟩) ?hS30 (fun a' ha => ?rest30)
              case hy30 => (intro w hS; go_simp; try with_reducible rfl)
              case hS30 => exact (by show Below _ _ _; repeat (first | exact Below.refl _ _ | assumption | refine bel_drew ?_ | refine bel_alloc ?_ _ | refine bel_set ?_ _ _ _ (by first | exact Nat.le_refl _ | assumption)))
              simp [go_sem] at ha
              subst ha
              refine wpAnyH_done (by kernel_rfl) ?_ _
              refine NoPanic.normal ?_
              go_wp2_with fail
              go_meet
              exact DPost.behind b32w HT9.out HB9.out
            · go_simp
              refine hK.out _ _ (by show Below _ _ _; repeat (first | exact Below.refl _ _ | assumption | refine bel_drew ?_ | refine bel_alloc ?_ _ | refine bel_set ?_ _ _ _ (by first | exact Nat.le_refl _ | assumption))) ?_
              clear hK K
              have KA : Blk (World.alloc w31 (Obj.cells #[.int .i64 0, .slice none 0 0, .slice none 0 0] 24)) w31.heap.size 24 #[.int .i64 0, .slice none 0 0, .slice none 0 0] := Blk.made w31 _ _
              have hVb : w33.heap.size ≤ w31.heap.size := b31w.size
              refine anyH_one (i := 4) rfl (by kernel_rfl) (fun K hK => ?_)
              go_simp
              refine (HAL.out q9 c9 _ (by repeat (first | exact Below.refl _ _ | assumption | refine bel_drew ?_ | refine bel_alloc ?_ _)) (HO9.out.later (by repeat (first | exact Below.refl _ _ | assumption | refine bel_drew ?_ | refine bel_alloc ?_ _)))).mono ?_
              rintro e w32 ⟨kp9, kc9, vp9, vc9, ga9, gb9, rfl, -, -, T9, B9, b32, f1, f2⟩
              have b32w := below_of w33 b32 (by repeat (first | exact Below.refl _ _ | assumption | refine bel_drew ?_ | refine bel_alloc ?_ _))
              have HT9 := Lib.hid T9
              have HB9 := Lib.hid B9
              have fa := Nat.lt_of_lt_of_le (Blk.lt (h := by exact KA)) f1
              have fb := Nat.lt_of_lt_of_le (Blk.lt (h := by exact KA)) f2
              have KA := Blk.later (h := by exact KA) b32
              clear T9 B9 f1 f2
              refine hK.out _ _ (by show Below _ _ _; repeat (first | exact Below.refl _ _ | assumption | refine bel_drew ?_ | refine bel_alloc ?_ _ | refine bel_set ?_ _ _ _ (by first | exact Nat.le_refl _ | assumption))) ?_
              clear hK K
              refine takeH_n (i := 5) (v := ?v31) rfl (by kernel_rfl) (by kernel_rfl) (by kernel_rfl) (fun _ _ _ h => h) (Or.inl ⟨by rfl, ?hy31⟩) ?hS31 (fun a' ha => ?rest31)
              case hy31 => (intro w hS; go_simp; try with_reducible rfl)
              case hS31 => exact (by show Below _ _ _; repeat (first | exact Below.refl _ _ | assumption | refine bel_drew ?_ | refine bel_alloc ?_ _ | refine bel_set ?_ _ _ _ (by first | exact Nat.le_refl _ | assumption)))
              simp [go_sem] at ha
              subst ha
              refine takeH_n (i := 6) (v := ?v32) rfl (by kernel_rfl) (by kernel_rfl) (by kernel_rfl) (fun _ _ _ h => h) (Or.inl ⟨by rfl, ?hy32⟩) ?hS32 (fun a' ha => ?rest32)
              case hy32 => (intro w hS; go_simp; try with_reducible rfl)
              case hS32 => exact (by show Below _ _ _; repeat (first | exact Below.refl _ _ | assumption | refine bel_drew ?_ | refine bel_alloc ?_ _ | refine bel_set ?_ _ _ _ (by first | exact Nat.le_refl _ | assumption)))
              simp [go_sem] at ha
              subst ha
              refine takeH_n (i := 7) (v := ?v33) rfl (by kernel_rfl) (by kernel_rfl) (by kernel_rfl) (fun _ _ _ h => h) (Or.inl ⟨by rfl, ?hy33⟩) ?hS33 (fun a' ha => ?rest33)
              case hy33 => (intro w hS; go_simp; try with_reducible rfl)
              case hS33 => exact (by show Below _ _ _; repeat (first | exact Below.refl _ _ | assumption | refine bel_drew ?_ | refine bel_alloc ?_ _ | refine bel_set ?_ _ _ _ (by first | exact Nat.le_refl _ | assumption)))
              simp [go_sem] at ha
              subst ha
              refine takeH_n (i := 8) (v := ?v34) rfl (by kernel_rfl) (by kernel_rfl) (by kernel_rfl) (fun _ _ _ h => h) (Or.inl ⟨by rfl, ?hy34⟩) ?hS34 (fun a' ha => ?rest34)
              case hy34 => (intro w hS; go_simp; try with_reducible rfl)
              case hS34 => exact (by show Below _ _ _; repeat (first | exact Below.refl _ _ | assumption | refine bel_drew ?_ | refine bel_alloc ?_ _ | refine bel_set ?_ _ _ _ (by first | exact Nat.le_refl _ | assumption)))
              simp [go_sem] at ha
              subst ha
              have y0 := KA.cell 0
              have y1 := KA.cell 1
              have y2 := KA.cell 2
              have x0 := KA.free 0
              have x1 := KA.free 1
              have x2 := KA.free 2
              refine anyH_one (i := 10) rfl (by kernel_rfl) (fun K hK => ?_)
              go_simp
              refine hK.out _ _ (by show Below _ _ _; repeat (first | exact Below.refl _ _ | assumption | refine bel_drew ?_ | refine bel_alloc ?_ _ | refine bel_set ?_ _ _ _ (by first | exact Nat.le_refl _ | assumption))) ?_
              clear hK K
              refine takeH_n (i := 11) (v := ?v35) rfl (by kernel_rfl) (by kernel_rfl) (by kernel_rfl) (fun _ _ _ h => h) (Or.inl ⟨by rfl, ?hy35⟩) ?hS35 (fun a' ha => ?rest35)
              case hy35 => (intro w hS; go_simp; try with_reducible rfl)
              case hS35 => exact (by show Below _ _ _; repeat (first | exact Below.refl _ _ | assumption | refine bel_drew ?_ | refine bel_alloc ?_ _ | refine bel_set ?_ _ _ _ (by first | exact Nat.le_refl _ | assumption)))
              simp [go_sem] at ha
              subst ha
              refine takeH_n (i := 12) (v := ?v36) rfl (by kernel_rfl) (by kernel_rfl) (by kernel_rfl) (fun _ _ _ h => h) (Or.inl ⟨by rfl, ?hy36⟩) ?hS36 (fun a' ha => ?rest36)
              case hy36 => (intro w hS; go_simp; try with_reducible rfl)
              case hS36 => exact (by show Below _ _ _; repeat (first | exact Below.refl _ _ | assumption | refine bel_drew ?_ | refine bel_alloc ?_ _ | refine bel_set ?_ _ _ _ (by first | exact Nat.le_refl _ | assumption)))
              simp [go_sem] at ha
              subst ha
              refine wpAnyH_done (by kernel_rfl) ?_ _
              refine NoPanic.normal ?_
              go_wp2_with fail
              go_meet
              exact DPost.ahead hVb KA b32w fa fb HT9.out HB9.out
          · go_simp
            refine hK.out _ _ (by show Below _ _ _; repeat (first | exact Below.refl _ _ | assumption | refine bel_drew ?_ | refine bel_alloc ?_ _ | refine bel_set ?_ _ _ _ (by first | exact Nat.le_refl _ | assumption))) ?_
            clear hK K
            have KA : Blk (World.alloc w33 (Obj.cells #[.int .i64 0, .slice none 0 0, .slice none 0 0] 24)) w33.heap.size 24 #[.int .i64 0, .slice none 0 0, .slice none 0 0] := Blk.made w33 _ _
            have hVb : w33.heap.size ≤ w33.heap.size := Nat.le_refl _
            refine anyH_one (i := 3) rfl (by kernel_rfl) (fun K hK => ?_)
            go_simp
            refine (HT.out _ (by repeat (first | exact Below.refl _ _ | assumption | refine bel_drew ?_ | refine bel_alloc ?_ _))).mono ?_
            rintro e w31 ⟨q9, c9, rfl, O9, b31, -⟩
            have b31w := below_of w33 b31 (by repeat (first | exact Below.refl _ _ | assumption | refine bel_drew ?_ | refine bel_alloc ?_ _))
            have HO9 := Lib.hid O9
            clear O9
            have KA := Blk.later (h := by exact KA) b31
            refine hK.out _ _ (by show Below _ _ _; repeat (first | exact Below.refl _ _ | assumption | refine bel_drew ?_ | refine bel_alloc ?_ _ | refine bel_set ?_ _ _ _ (by first | exact Nat.le_refl _ | assumption))) ?_
            clear hK K
            refine anyH_one (i := 4) rfl (by kernel_rfl) (fun K hK => ?_)
            go_simp
            refine (HAL.out q9 c9 _ (by repeat (first | exact Below.refl _ _ | assumption | refine bel_drew ?_ | refine bel_alloc ?_ _)) (HO9.out.later (by repeat (first | exact Below.refl _ _ | assumption | refine bel_drew ?_ | refine bel_alloc ?_ _)))).mono ?_
            rintro e w32 ⟨kp9, kc9, vp9, vc9, ga9, gb9, rfl, -, -, T9, B9, b32, f1, f2⟩
            have b32w := below_of w33 b32 (by repeat (first | exact Below.refl _ _ | assumption | refine bel_drew ?_ | refine bel_alloc ?_ _))
            have HT9 := Lib.hid T9
            have HB9 := Lib.hid B9
            have fa := Nat.lt_of_lt_of_le (Blk.lt (h := by exact KA)) f1
            have fb := Nat.lt_of_lt_of_le (Blk.lt (h := by exact KA)) f2
            have KA := Blk.later (h := by exact KA) b32
            clear T9 B9 f1 f2
            refine hK.out _ _ (by show Below _ _ _; repeat (first | exact Below.refl _ _ | assumption | refine bel_drew ?_ | refine bel_alloc ?_ _ | refine bel_set ?_ _ _ _ (by first | exact Nat.le_refl _ | assumption))) ?_
            clear hK K
            refine takeH_n (i := 5) (v := ?v37) rfl (by kernel_rfl) (by kernel_rfl) (by kernel_rfl) (fun _ _ _ h => h) (Or.inl ⟨by rfl, ?hy37⟩) ?hS37 (fun a' ha => ?rest37)
            case hy37 => (intro w hS; go_simp; try with_reducible rfl)
            case hS37 => exact (by show Below _ _ _; repeat (first | exact Below.refl _ _ | assumption | refine bel_drew ?_ | refine bel_alloc ?_ _ | refine bel_set ?_ _ _ _ (by first | exact Nat.le_refl _ | assumption)))
            simp [go_sem] at ha
            subst ha
            refine takeH_n (i := 6) (v := ?v38) rfl (by kernel_rfl) (by kernel_rfl) (by kernel_rfl) (fun _ _ _ h => h) (Or.inl ⟨by rfl, ?hy38⟩) ?hS38 (fun a' ha => ?rest38)
            case hy38 => (intro w hS; go_simp; try with_reducible rfl)
            case hS38 => exact (by show Below _ _ _; repeat (first | exact Below.refl _ _ | assumption | refine bel_drew ?_ | refine bel_alloc ?_ _ | refine bel_set ?_ _ _ _ (by first | exact Nat.le_refl _ | assumption)))
            simp [go_sem] at ha
            subst ha
            refine takeH_n (i := 7) (v := ?v39) rfl (by kernel_rfl) (by kernel_rfl) (by kernel_rfl) (fun _ _ _ h => h) (Or.inl ⟨by rfl, ?hy39⟩) ?hS39 (fun a' ha => ?rest39)
            case hy39 => (intro w hS; go_simp; try with_reducible rfl)
            case hS39 => exact (by show Below _ _ _; repeat (first | exact Below.refl _ _ | assumption | refine bel_drew ?_ | refine bel_alloc ?_ _ | refine bel_set ?_ _ _ _ (by first | exact Nat.le_refl _ | assumption)))
            simp [go_sem] at ha
            subst ha
            refine takeH_n (i := 8) (v := ?v40) rfl (by kernel_rfl) (by kernel_rfl) (by kernel_rfl) (fun _ _ _ h => h) (Or.inl ⟨by rfl, ?hy40⟩) ?hS40 (fun a' ha => ?rest40)
            case hy40 => (intro w hS; go_simp; try with_reducible rfl)
            case hS40 => exact (by show Below _ _ _; repeat (first | exact Below.refl _ _ | assumption | refine bel_drew ?_ | refine bel_alloc ?_ _ | refine bel_set ?_ _ _ _ (by first | exact Nat.le_refl _ | assumption)))
            simp [go_sem] at ha
            subst ha
            have y0 := KA.cell 0
            have y1 := KA.cell 1
            have y2 := KA.cell 2
            have x0 := KA.free 0
            have x1 := KA.free 1
            have x2 := KA.free 2
            refine anyH_one (i := 10) rfl (by kernel_rfl) (fun K hK => ?_)
            go_simp
            refine hK.out _ _ (by show Below _ _ _; repeat (first | exact Below.refl _ _ | assumption | refine bel_drew ?_ | refine bel_alloc ?_ _ | refine bel_set ?_ _ _ _ (by first | exact Nat.le_refl _ | assumption))) ?_
            clear hK K
            refine takeH_n (i := 11) (v := ?v41) rfl (by kernel_rfl) (by kernel_rfl) (by kernel_rfl) (fun _ _ _ h => h) (Or.inl ⟨by rfl, ?hy41⟩) ?hS41 (fun a' ha => ?rest41)
            case hy41 => (intro w hS; go_simp; try with_reducible rfl)
            case hS41 => exact (by show Below _ _ _; repeat (first | exact Below.refl _ _ | assumption | refine bel_drew ?_ | refine bel_alloc ?_ _ | refine bel_set ?_ _ _ _ (by first | exact Nat.le_refl _ | assumption)))
            simp [go_sem] at ha
            subst ha
            refine takeH_n (i := 12) (v := ?v42) rfl (by kernel_rfl) (by kernel_rfl) (by kernel_rfl) (fun _ _ _ h => h) (Or.inl ⟨by rfl, ?hy42⟩) ?hS42 (fun a' ha => ?rest42)
            case hy42 => (intro w hS; go_simp; try with_reducible rfl)
            case hS42 => exact (by show Below _ _ _; repeat (first | exact Below.refl _ _ | assumption | refine bel_drew ?_ | refine bel_alloc ?_ _ | refine bel_set ?_ _ _ _ (by first | exact Nat.le_refl _ | assumption)))
            simp [go_sem] at ha
            subst ha
            refine wpAnyH_done (by kernel_rfl) ?_ _
            refine NoPanic.normal ?_
            go_wp2_with fail
            go_meet
            exact DPost.ahead hVb KA b32w fa fb HT9.out HB9.out
        case rest =>
          obtain ⟨w34, hwc⟩ : ∃ wy, wy = wc := ⟨_, rfl⟩
          obtain ⟨b4, kp4, kc4, vp4, vc4, ga4, gb4, rfl, rfl, rfl, KY, T4, B4, hb⟩ := hcut
          rw [← hwc] at KY T4 B4 hb ⊢
          clear hwc HT HAL HZ HZL z0 z1 z2 zl
          have O1 := HO1.out
          have O2 := HO2.out
          have N3 := HN3.out
          have NH := HNH.out
          have NL := HNL.out
          have P1 := HP1.out
          have Q1 := HQ1.out
          have KS := HKS.out
          have P2 := HP2.out
          have Q2 := HQ2.out
          have KH := HKH.out
          have KX := HKX.out
          have T3 := HT3.out
          have B3 := HB3.out
          have hB := HhB.out
          clear HO1 HO2 HN3 HNH HNL HP1 HQ1 HKS HP2 HQ2 HKH HKX HT3 HB3 HhB
          replace O1 := O1.later hb
          replace O2 := O2.later hb
          replace N3 := N3.later hb
          replace NH := NH.later hb
          replace NL := NL.later hb
          replace P1 := P1.later hb
          replace Q1 := Q1.later hb
          replace KS := KS.later hb
          replace P2 := P2.later hb
          replace Q2 := Q2.later hb
          replace KH := KH.later hb
          replace KX := KX.later hb
          replace T3 := T3.later hb
          replace B3 := B3.later hb
          replace hB := hB.trans (hb.mono hB.size)
          clear hb
          have hxm : (List.replicate m true ++ [false])[m]? = some false := by simp
          have b3q := (B3.got m _ hxm).2
          have b4q := (B4.got m _ hxm).2
          have im0 : (0 : Int) ≤ m := by omega
          have im1 : (m : Int) < m1 := by omega
          have T3n := T3.take m
          have T4n := T4.take m
          rw [List.take_append_of_le_length (by rw [hl1]; exact Nat.le_refl _), List.take_of_length_le (by rw [hl1]; exact Nat.le_refl _)] at T3n
          rw [List.take_append_of_le_length (by rw [hl2]; exact Nat.le_refl _), List.take_of_length_le (by rw [hl2]; exact Nat.le_refl _)] at T4n
          have x0 : World.cell? _ ⟨b3, 0, none⟩ = some (.int .i64 2) := KX.cell 0
          have x1 : World.cell? _ ⟨b3, 1, none⟩ = some (.slice kp3 0 kc3) := KX.cell 1
          have x2 : World.cell? _ ⟨b3, 2, none⟩ = some (.slice vp3 0 vc3) := KX.cell 2
          have xl := KX.lt
          have y0 : World.cell? _ ⟨b4, 0, none⟩ = some (.int .i64 3) := KY.cell 0
          have y1 : World.cell? _ ⟨b4, 1, none⟩ = some (.slice kp4 0 kc4) := KY.cell 1
          have y2 : World.cell? _ ⟨b4, 2, none⟩ = some (.slice vp4 0 vc4) := KY.cell 2
          have yl := KY.lt
          have HO1 := Lib.hid O1
          have HO2 := Lib.hid O2
          have HN3 := Lib.hid N3
          have HNH := Lib.hid NH
          have HNL := Lib.hid NL
          have HP1 := Lib.hid P1
          have HQ1 := Lib.hid Q1
          have HKS := Lib.hid KS
          have HP2 := Lib.hid P2
          have HQ2 := Lib.hid Q2
          have HKH := Lib.hid KH
          have HKX := Lib.hid KX
          have HT3 := Lib.hid T3
          have HB3 := Lib.hid B3
          have HKY := Lib.hid KY
          have HT4 := Lib.hid T4
          have HB4 := Lib.hid B4
          have HT3n := Lib.hid T3n
          have HT4n := Lib.hid T4n
          have HhB := Lib.hid hB
          clear O1 O2 N3 NH NL P1 Q1 KS P2 Q2 KH KX T3 B3 KY T4 B4 T3n T4n hB
          go_wp2_with fail
          clear x0 x1 x2 xl y0 y1 y2 yl b3q b4q
          have O1 := HO1.out
          have O2 := HO2.out
          have N3 := HN3.out
          have NH := HNH.out
          have NL := HNL.out
          have P1 := HP1.out
          have Q1 := HQ1.out
          have KS := HKS.out
          have P2 := HP2.out
          have Q2 := HQ2.out
          have KH := HKH.out
          have KX := HKX.out
          have T3 := HT3.out
          have B3 := HB3.out
          have KY := HKY.out
          have T4 := HT4.out
          have B4 := HB4.out
          have T3n := HT3n.out
          have T4n := HT4n.out
          have hB := HhB.out
          clear HO1 HO2 HN3 HNH HNL HP1 HQ1 HKS HP2 HQ2 HKH HKX HT3 HB3 HKY HT4 HB4 HT3n HT4n HhB
          have HIN := Lib.hid fun (a : List Int) (n : Nat) (hn : a.length = n) (hle : n ≤ 1000000) (p1 p2 : Option Addr) (c1 c2 : Nat) wx (h1 : Nums wx p1 c1 a) (h2 : Nums wx p2 c2 a) => (show Calls Try.prog 18 #[.slice p1 n c1, .slice p2 n c2] wx fun e w' => e = .returned (.bool true) ∧ Below wx.heap.size wx w' from (ints_any a a n n hn hn p1 p2 c1 c2 wx h1 h2 hle hle).mono fun e w' ⟨h3, x, h4⟩ => ⟨by rw [h3]; simp, by rw [h4]; exact ⟨rfl, rfl, rfl, Nat.le_refl _, fun _ _ => rfl⟩⟩)
          have hB0 := Below.refl w34.heap.size w34
          have HO1 := Lib.hid O1
          have HO2 := Lib.hid O2
          have HN3 := Lib.hid N3
          have HNH := Lib.hid NH
          have HNL := Lib.hid NL
          have HP1 := Lib.hid P1
          have HQ1 := Lib.hid Q1
          have HKS := Lib.hid KS
          have HP2 := Lib.hid P2
          have HQ2 := Lib.hid Q2
          have HKH := Lib.hid KH
          have HKX := Lib.hid KX
          have HT3 := Lib.hid T3
          have HB3 := Lib.hid B3
          have HKY := Lib.hid KY
          have HT4 := Lib.hid T4
          have HB4 := Lib.hid B4
          have HT3n := Lib.hid T3n
          have HT4n := Lib.hid T4n
          have HhB0 := Lib.hid hB0
          have HhB := Lib.hid hB
          clear O1 O2 N3 NH NL P1 Q1 KS P2 Q2 KH KX T3 B3 KY T4 B4 T3n T4n hB0 hB
          skip
          have HB0 := HhB0
          have HKL : Hid (l.reverse.length = k) := Lib.hid (by rw [List.length_reverse]; exact L2.out)
          have HMK : Hid (m = hn + k) := Lib.hid (by omega)
          have im2 : m ≤ m1 := by omega
          have im3 : (m : Int) ≤ m1 := by omega
          refine wp_region_noPanic ?_
          refine wp_region_any (by kernel_rfl) ?_
          change wpAny _ _ _ _ _ _ _ (World.drew _)
          refine take_n (i := 0) (v := ?v43) rfl (by kernel_rfl) (by kernel_rfl) (by kernel_rfl) (fun _ _ _ h => h) (Or.inl ⟨by rfl, ?hy43⟩) (fun a' ha => ?rest43)
          case hy43 => (intro w; go_simp; try with_reducible rfl)
          simp [go_sem] at ha
          subst ha
          refine take_n (i := 1) (v := ?v44) rfl (by kernel_rfl) (by kernel_rfl) (by kernel_rfl) (fun _ _ _ h => h) (Or.inl ⟨by rfl, ?hy44⟩) (fun a' ha => ?rest44)
          case hy44 => (intro w; go_simp; try with_reducible rfl)
          simp [go_sem] at ha
          subst ha
          refine take_n (i := 2) (v := ?v45) rfl (by kernel_rfl) (by kernel_rfl) (by kernel_rfl) (fun _ _ _ h => h) (Or.inl ⟨by rfl, ?hy45⟩) (fun a' ha => ?rest45)
          case hy45 => (intro w; go_simp; try with_reducible rfl)
          simp [go_sem] at ha
          subst ha
          refine take_n (i := 3) (v := ?v46) rfl (by kernel_rfl) (by kernel_rfl) (by kernel_rfl) (fun _ _ _ h => h) (Or.inl ⟨by rfl, ?hy46⟩) (fun a' ha => ?rest46)
          case hy46 => (intro w; go_simp; try with_reducible rfl)
          simp [go_sem] at ha
          subst ha
          refine take_n (i := 4) (v := ?v47) rfl (by kernel_rfl) (by kernel_rfl) (by kernel_rfl) (fun _ _ _ h => h) (Or.inl ⟨by rfl, ?hy47⟩) (fun a' ha => ?rest47)
          case hy47 => (intro w; go_simp; try with_reducible rfl)
          simp [go_sem] at ha
          subst ha
          refine take_n (i := 6) (v := ?v48) rfl (by kernel_rfl) (by kernel_rfl) (by kernel_rfl) (fun _ _ _ h => h) (Or.inl ⟨by rfl, ?hy48⟩) (fun a' ha => ?rest48)
          case hy48 => (intro w; go_simp; try with_reducible rfl)
          simp [go_sem] at ha
          subst ha
          refine take_n (i := 8) (v := ?v49) rfl (by kernel_rfl) (by kernel_rfl) (by kernel_rfl) (fun _ _ _ h => h) (Or.inl ⟨by rfl, ?hy49⟩) (fun a' ha => ?rest49)
          case hy49 => (intro w; go_simp; try with_reducible rfl)
          simp [go_sem] at ha
          subst ha
          refine wpAny_ready (rs := [5]) (by kernel_rfl) (by simp) (AllReady.cons rfl (fun K hK => ?_) AllReady.nil)
          go_simp
          refine hK _ _ ?_
          clear hK K
          have own0 : World.ownsRow (World.alloc w34 (Obj.cells #[] 3)).drew w34.heap.size 3 1 (.slice (some ⟨w34.heap.size, 0, none⟩) 0 0) 0 (([] : List Int).map (Value.int .i64)) := World.ownsRow_made w34 #[] 0 (Nat.le_refl _) (Nat.zero_le _) rfl
          have bel0 : Below w34.heap.size w34 (World.alloc w34 (Obj.cells #[] 3)).drew := ((Below.refl _ w34).alloc (Nat.le_refl _) _).drew
          refine any_append_nums (i := 7) _ rfl (by kernel_rfl) (by rfl) (.tmp 158) (.tmp 159) rfl w34.heap.size _ 0 [] rfl (by exact own0) _ k _ l.reverse rfl (HN3.out.later (by exact HB0.out.trans (bel0.mono HB0.out.size))) HKL.out k (by omega) (by omega) (by exact bel0.size) ?_
          intro v50 w50 own1 gb1
          have bel1 := below_gb bel0 gb1 bel0.size (fun i' hi' => (own0.lt i' hi').1)
          refine any_append_nums (i := 9) _ rfl (by kernel_rfl) (by rfl) (.tmp 160) (.tmp 161) rfl w34.heap.size _ k _ rfl (by exact own1) _ hn _ had rfl (HNH.out.later (by exact HB0.out.trans (bel1.mono HB0.out.size))) L1.out m (by have := HMK.out; omega) (by omega) (by exact bel1.size) ?_
          intro v51 w51 own2 gb2
          have bel2 := below_gb bel1 gb2 bel1.size (fun i' hi' => (own1.lt i' hi').1)
          obtain ⟨p51, c51, rfl⟩ := own_slice own2
          have NA0 := Lib.hid (Nums.of_own own2).1
          have HC0 := Lib.hid (HB0.out.trans (bel2.mono HB0.out.size))
          clear own0 own1 own2 gb1 gb2 bel0 bel1 bel2
          refine wpAny_ready (rs := [10]) (by kernel_rfl) (by simp) (AllReady.cons rfl (fun K hK => ?_) AllReady.nil)
          go_simp
          refine (HIN.out (l.reverse ++ had) m hl1 (by omega) _ _ _ _ _ (HT3n.out.later HC0.out) (by have := NA0.out; simpa using this)).mono ?_
          rintro e w60 ⟨rfl, hb60⟩
          have HB1 := Lib.hid (HC0.out.trans (hb60.mono HC0.out.size))
          clear hb60 NA0 HC0
          refine hK _ _ ?_
          clear hK K
          refine take_n (i := 11) (v := ?v50) rfl (by kernel_rfl) (by kernel_rfl) (by kernel_rfl) (fun _ _ _ h => h) (Or.inl ⟨by rfl, ?hy50⟩) (fun a' ha => ?rest50)
          case hy50 => (intro w; go_simp; try with_reducible rfl)
          simp [go_sem] at ha
          subst ha
          refine take_n (i := 12) (v := ?v51) rfl (by kernel_rfl) (by kernel_rfl) (by kernel_rfl) (fun _ _ _ h => h) (Or.inl ⟨by rfl, ?hy51⟩) (fun a' ha => ?rest51)
          case hy51 => (intro w; go_simp; try with_reducible rfl)
          simp [go_sem] at ha
          subst ha
          refine take_n (i := 13) (v := ?v52) rfl (by kernel_rfl) (by kernel_rfl) (by kernel_rfl) (fun _ _ _ h => h) (Or.inl ⟨by rfl, ?hy52⟩) (fun a' ha => ?rest52)
          case hy52 => (intro w; go_simp; try with_reducible rfl)
          simp [go_sem] at ha
          subst ha
          refine take_n (i := 14) (v := ?v53) rfl (by kernel_rfl) (by kernel_rfl) (by kernel_rfl) (fun _ _ _ h => h) (Or.inl ⟨by rfl, ?hy53⟩) (fun a' ha => ?rest53)
          case hy53 => (intro w; go_simp; try with_reducible rfl)
          simp [go_sem] at ha
          subst ha
          refine take_n (i := 15) (v := ?v54) rfl (by kernel_rfl) (by kernel_rfl) (by kernel_rfl) (fun _ _ _ h => h) (Or.inl ⟨by rfl, ?hy54⟩) (fun a' ha => ?rest54)
          case hy54 => (intro w; go_simp; try with_reducible rfl)
          simp [go_sem] at ha
          subst ha
          refine take_n (i := 17) (v := ?v55) rfl (by kernel_rfl) (by kernel_rfl) (by kernel_rfl) (fun _ _ _ h => h) (Or.inl ⟨by rfl, ?hy55⟩) (fun a' ha => ?rest55)
          case hy55 => (intro w; go_simp; try with_reducible rfl)
          simp [go_sem] at ha
          subst ha
          refine take_n (i := 19) (v := ?v56) rfl (by kernel_rfl) (by kernel_rfl) (by kernel_rfl) (fun _ _ _ h => h) (Or.inl ⟨by rfl, ?hy56⟩) (fun a' ha => ?rest56)
          case hy56 => (intro w; go_simp; try with_reducible rfl)
          simp [go_sem] at ha
          subst ha
          refine wpAny_ready (rs := [16]) (by kernel_rfl) (by simp) (AllReady.cons rfl (fun K hK => ?_) AllReady.nil)
          go_simp
          refine hK _ _ ?_
          clear hK K
          have own0 : World.ownsRow (World.alloc w60 (Obj.cells #[] 3)) w60.heap.size 3 1 (.slice (some ⟨w60.heap.size, 0, none⟩) 0 0) 0 (([] : List Int).map (Value.int .i64)) := World.ownsRow_made w60 #[] 0 (Nat.le_refl _) (Nat.zero_le _) rfl
          have bel0 : Below w60.heap.size w60 (World.alloc w60 (Obj.cells #[] 3)) := ((Below.refl _ w60).alloc (Nat.le_refl _) _)
          refine any_append_nums (i := 18) _ rfl (by kernel_rfl) (by rfl) (.tmp 169) (.tmp 170) rfl w60.heap.size _ 0 [] rfl (by exact own0) _ hn _ had rfl (HNH.out.later (by exact HB1.out.trans (bel0.mono HB1.out.size))) L1.out hn (by omega) (by omega) (by exact bel0.size) ?_
          intro v52 w52 own1 gb1
          have bel1 := below_gb bel0 gb1 bel0.size (fun i' hi' => (own0.lt i' hi').1)
          refine any_append_nums (i := 20) _ rfl (by kernel_rfl) (by rfl) (.tmp 171) (.tmp 172) rfl w60.heap.size _ hn _ rfl (by exact own1) _ k _ l rfl (HNL.out.later (by exact HB1.out.trans (bel1.mono HB1.out.size))) L2.out m (by have := HMK.out; omega) (by omega) (by exact bel1.size) ?_
          intro v53 w53 own2 gb2
          have bel2 := below_gb bel1 gb2 bel1.size (fun i' hi' => (own1.lt i' hi').1)
          obtain ⟨p53, c53, rfl⟩ := own_slice own2
          have NA1 := Lib.hid (Nums.of_own own2).1
          have HC1 := Lib.hid (HB1.out.trans (bel2.mono HB1.out.size))
          clear own0 own1 own2 gb1 gb2 bel0 bel1 bel2
          refine wpAny_ready (rs := [21]) (by kernel_rfl) (by simp) (AllReady.cons rfl (fun K hK => ?_) AllReady.nil)
          go_simp
          refine (HIN.out (had ++ l) m hl2 (by omega) _ _ _ _ _ (HT4n.out.later HC1.out) (by have := NA1.out; simpa using this)).mono ?_
          rintro e w61 ⟨rfl, hb61⟩
          have HB2 := Lib.hid (HC1.out.trans (hb61.mono HC1.out.size))
          clear hb61 NA1 HC1
          refine hK _ _ ?_
          clear hK K
          refine take_n (i := 22) (v := ?v57) rfl (by kernel_rfl) (by kernel_rfl) (by kernel_rfl) (fun _ _ _ h => h) (Or.inl ⟨by rfl, ?hy57⟩) (fun a' ha => ?rest57)
          case hy57 => (intro w; go_simp; try with_reducible rfl)
          simp [go_sem] at ha
          subst ha
          refine take_n (i := 23) (v := ?v58) rfl (by kernel_rfl) (by kernel_rfl) (by kernel_rfl) (fun _ _ _ h => h) (Or.inl ⟨by rfl, ?hy58⟩) (fun a' ha => ?rest58)
          case hy58 => (intro w; go_simp; try with_reducible rfl)
          simp [go_sem] at ha
          subst ha
          refine wpAny_done (by kernel_rfl) ?_ _
          refine NoPanic.normal ?_
          go_wp2_with fail
          go_ret
          exact ⟨rfl, HhB.out.trans (HB2.out.mono HhB.out.size)⟩
end Go.Proofs.Ythbpoagkfpalfaa
