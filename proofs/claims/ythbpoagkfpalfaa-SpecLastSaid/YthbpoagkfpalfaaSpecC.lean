/-
  SPEC: contents: right, few, Commute, Ints, Bools, Same.
-/
import Derived.Test.YthbpoagkfpalfaaRows
import Derived.ProofKit
import Derived.Deep.QuietTactic
import Derived.BigQuiet
import Derived.LoopTactic
import Derived.Test.YthbpoagkfpalfaaSpecB
namespace Go.Proofs.Ythbpoagkfpalfaa
open Go.ChangeShapes Go.WideShapes Go.ChangeAt Go.RowKit

structure ContV where
  kind : Int
  keys : List Int
  vals : List Int
deriving DecidableEq
/-- may a content be? -/
def rightC (c : ContV) : Bool := if c.kind = 1 then decide (c.keys.Pairwise (· < ·)) && decide (c.keys.length = c.vals.length) else if c.kind = 2 ∨ c.kind = 3 then decide (c.keys.length = 0) else false

/-- a slice that reads as these truths -/
structure Bls (w : World) (p : Option Addr) (cap : Nat) (xs : List Bool) : Prop where
  cells : Cells w p (xs.map Value.bool)
theorem Bls.later {w w1 : World} {p : Option Addr} {cap : Nat} {xs : List Bool} (h : Bls w p cap xs) (hb : Below w.heap.size w w1) : Bls w1 p cap xs := ⟨h.cells.later hb⟩
theorem Bls.at_ {w : World} {p : Option Addr} {cap : Nat} {xs : List Bool} (h : Bls w p cap xs) (i : Nat) (hi : i < xs.length) : ∃ b off, p = some ⟨b, off, none⟩ ∧ b < w.heap.size ∧ w.cell? ⟨b, off + i, none⟩ = some (.bool xs[i]) := by
  obtain ⟨b, off, h1, h2, h3⟩ := h.cells.at_ i (by simpa using hi)
  exact ⟨b, off, h1, h2, by rw [h3]; simp⟩
theorem Bls.of_blk {w : World} {g : Nat} {t : TypeId} {cs : Array Value} {xs : List Bool} {cap : Nat} (h : Blk w g t cs) (hc : cs.toList.take xs.length = xs.map Value.bool) : Bls w (some ⟨g, 0, none⟩) cap xs := by
  refine ⟨⟨fun i hi => ⟨g, 0, rfl, h.lt, ?_⟩⟩⟩
  have hi2 : i < xs.length := by simpa using hi
  rw [Nat.zero_add, h.cell, ← Array.getElem?_toList]
  have : (cs.toList.take xs.length)[i]? = (xs.map Value.bool)[i]? := by rw [hc]
  rw [List.getElem?_take, if_pos hi2, List.getElem?_eq_getElem hi] at this
  exact this

set_option maxHeartbeats 2000000 in
theorem ints_any (a b : List Int) (n m : Nat) (hn : a.length = n) (hm : b.length = m) (p q : Option Addr) (c d : Nat) (w : World) (ha : Nums w p c a) (hb : Nums w q d b) (hl : n ≤ 1000000) (hl2 : m ≤ 1000000) :
    Calls Try.prog 18 #[.slice p n c, .slice q m d] w fun e w' => e = .returned (.bool (decide (a = b))) ∧ ∃ x, w' = w.drewN x := by
  obtain ⟨R, hR⟩ : ∃ r, decide (a = b) = r := ⟨_, rfl⟩
  have HR := Lib.hid hR
  have HN := Lib.hid hn
  have HM := Lib.hid hm
  rw [hR]
  have HA := Lib.hid ha
  have HB := Lib.hid hb
  clear hn hm hR ha hb
  by_cases hnm : n = m
  · subst hnm
    go_enter Try.func18, Try.ntmps18
    go_wp2_with fail
    go_loopw [5] (fun i wr => ∃ k x : Nat, k ≤ n ∧ i = .int .i64 k ∧ wr = w.drewN x ∧ Hid (∀ j (h1 : j < a.length) (h2 : j < b.length), j < k → a[j] = b[j])) (fun i _ => n - (intOf i).toNat)
    case atStart => exact ⟨0, 0, Nat.zero_le _, rfl, rfl, Lib.hid (fun j _ _ hj => by omega)⟩
    case round =>
      obtain ⟨k, x, hk, rfl, rfl, HE⟩ := hrel
      by_cases hlt : k < n
      · have hk1 : k < a.length := by rw [HN.out]; exact hlt
        have hk2 : k < b.length := by rw [HM.out]; exact hlt
        obtain ⟨b1, o1, rfl, _, g0⟩ := HA.out.at_ k hk1
        obtain ⟨b2, o2, rfl, _, f0⟩ := HB.out.at_ k hk2
        obtain ⟨x0, e0⟩ : ∃ v, a[k] = v := ⟨_, rfl⟩
        obtain ⟨y0, e1⟩ : ∃ v, b[k] = v := ⟨_, rfl⟩
        rw [e0] at g0
        rw [e1] at f0
        have E0 := Lib.hid e0
        have E1 := Lib.hid e1
        clear e0 e1
        by_cases hxy : x0 = y0
        · have d1 : (x0 == y0) = true := by simp; exact hxy
          have d2 : (x0 != y0) = false := by simp; exact hxy
          have HXY := Lib.hid hxy
          clear hxy
          go_wp2_with fail
          go_quiet (fail)
          go_wp2_with fail
          go_roundw
          case rel =>
            refine ⟨k + 1, x + nq, by omega, by go_num, ?_, Lib.hid (fun j h1 h2 hj => ?_)⟩
            · rfl
            · by_cases hjk : j = k
              · subst hjk; exact (E0.out.trans HXY.out).trans E1.out.symm
              · exact HE.out j h1 h2 (by omega)
          case measure => simp [intOf]; omega
        · have d1 : (x0 == y0) = false := by simp; exact hxy
          have d2 : (x0 != y0) = true := by simp; exact hxy
          have hd : R = false := by
            rw [← HR.out, decide_eq_false_iff_not]; intro e
            subst e
            exact hxy (E0.out.symm.trans E1.out)
          have HD := Lib.hid hd
          clear hxy hd
          go_wp2_with fail
          go_quiet (fail)
          go_wp2_with fail
          go_ret
          exact ⟨by rw [HD.out]; rfl, x + nq, by first | rfl | rw [World.drewN_drewN]⟩
      · obtain rfl : k = n := by omega
        have hd : R = true := by
          rw [← HR.out, decide_eq_true_eq]
          exact List.ext_getElem (by rw [HN.out, HM.out]) (fun j h1 h2 => HE.out j h1 h2 (by rw [HN.out] at h1; omega))
        have HD := Lib.hid hd
        clear hd
        go_wp2_with fail
        go_ret
        exact ⟨by rw [HD.out]; rfl, x, rfl⟩
  · have hne : ((n : Int) == (m : Int)) = false := by simp; omega
    have hne2 : ((n : Int) != (m : Int)) = true := by simp; omega
    have hd : R = false := by
      rw [← HR.out, decide_eq_false_iff_not]; intro e; apply hnm; rw [← HN.out, ← HM.out, e]
    have HD := Lib.hid hd
    clear hd hnm
    go_enter Try.func18, Try.ntmps18
    go_wp2_with fail
    go_ret
    exact ⟨by rw [HD.out]; rfl, 0, rfl⟩

set_option maxHeartbeats 2000000 in
theorem bools_any (a b : List Bool) (n m : Nat) (hn : a.length = n) (hm : b.length = m) (p q : Option Addr) (c d : Nat) (w : World) (ha : Bls w p c a) (hb : Bls w q d b) (hl : n ≤ 1000000) (hl2 : m ≤ 1000000) :
    Calls Try.prog 19 #[.slice p n c, .slice q m d] w fun e w' => e = .returned (.bool (decide (a = b))) ∧ ∃ x, w' = w.drewN x := by
  obtain ⟨R, hR⟩ : ∃ r, decide (a = b) = r := ⟨_, rfl⟩
  have HR := Lib.hid hR
  have HN := Lib.hid hn
  have HM := Lib.hid hm
  rw [hR]
  have HA := Lib.hid ha
  have HB := Lib.hid hb
  clear hn hm hR ha hb
  by_cases hnm : n = m
  · subst hnm
    go_enter Try.func19, Try.ntmps19
    go_wp2_with fail
    go_loopw [5] (fun i wr => ∃ k x : Nat, k ≤ n ∧ i = .int .i64 k ∧ wr = w.drewN x ∧ Hid (∀ j (h1 : j < a.length) (h2 : j < b.length), j < k → a[j] = b[j])) (fun i _ => n - (intOf i).toNat)
    case atStart => exact ⟨0, 0, Nat.zero_le _, rfl, rfl, Lib.hid (fun j _ _ hj => by omega)⟩
    case round =>
      obtain ⟨k, x, hk, rfl, rfl, HE⟩ := hrel
      by_cases hlt : k < n
      · have hk1 : k < a.length := by rw [HN.out]; exact hlt
        have hk2 : k < b.length := by rw [HM.out]; exact hlt
        obtain ⟨b1, o1, rfl, _, g0⟩ := HA.out.at_ k hk1
        obtain ⟨b2, o2, rfl, _, f0⟩ := HB.out.at_ k hk2
        obtain ⟨x0, e0⟩ : ∃ v, a[k] = v := ⟨_, rfl⟩
        obtain ⟨y0, e1⟩ : ∃ v, b[k] = v := ⟨_, rfl⟩
        rw [e0] at g0
        rw [e1] at f0
        have E0 := Lib.hid e0
        have E1 := Lib.hid e1
        clear e0 e1
        by_cases hxy : x0 = y0
        · have d1 : (x0 == y0) = true := by simp; exact hxy
          have d2 : (x0 != y0) = false := by simp; exact hxy
          have HXY := Lib.hid hxy
          clear hxy
          go_wp2_with fail
          go_quiet (fail)
          go_wp2_with fail
          go_roundw
          case rel =>
            refine ⟨k + 1, x + nq, by omega, by go_num, ?_, Lib.hid (fun j h1 h2 hj => ?_)⟩
            · rfl
            · by_cases hjk : j = k
              · subst hjk; exact (E0.out.trans HXY.out).trans E1.out.symm
              · exact HE.out j h1 h2 (by omega)
          case measure => simp [intOf]; omega
        · have d1 : (x0 == y0) = false := by simp; exact hxy
          have d2 : (x0 != y0) = true := by simp; exact hxy
          have hd : R = false := by
            rw [← HR.out, decide_eq_false_iff_not]; intro e
            subst e
            exact hxy (E0.out.symm.trans E1.out)
          have HD := Lib.hid hd
          clear hxy hd
          go_wp2_with fail
          go_quiet (fail)
          go_wp2_with fail
          go_ret
          exact ⟨by rw [HD.out]; rfl, x + nq, by first | rfl | rw [World.drewN_drewN]⟩
      · obtain rfl : k = n := by omega
        have hd : R = true := by
          rw [← HR.out, decide_eq_true_eq]
          exact List.ext_getElem (by rw [HN.out, HM.out]) (fun j h1 h2 => HE.out j h1 h2 (by rw [HN.out] at h1; omega))
        have HD := Lib.hid hd
        clear hd
        go_wp2_with fail
        go_ret
        exact ⟨by rw [HD.out]; rfl, x, rfl⟩
  · have hne : ((n : Int) == (m : Int)) = false := by simp; omega
    have hne2 : ((n : Int) != (m : Int)) = true := by simp; omega
    have hd : R = false := by
      rw [← HR.out, decide_eq_false_iff_not]; intro e; apply hnm; rw [← HN.out, ← HM.out, e]
    have HD := Lib.hid hd
    clear hd hnm
    go_enter Try.func19, Try.ntmps19
    go_wp2_with fail
    go_ret
    exact ⟨by rw [HD.out]; rfl, 0, rfl⟩

set_option maxHeartbeats 2000000 in
theorem same_any (c d : ContV) (kn vn kn2 vn2 : Nat) (h1 : c.keys.length = kn) (h2 : c.vals.length = vn) (h3 : d.keys.length = kn2) (h4 : d.vals.length = vn2) (kp vp kp2 vp2 : Option Addr) (kc vc kc2 vc2 : Nat) (w : World)
    (a1 : Nums w kp kc c.keys) (a2 : Nums w vp vc c.vals) (a3 : Nums w kp2 kc2 d.keys) (a4 : Nums w vp2 vc2 d.vals) (l1 : kn ≤ 1000000) (l2 : vn ≤ 1000000) (l3 : kn2 ≤ 1000000) (l4 : vn2 ≤ 1000000) :
    Calls Try.prog 12 #[.agg #[.int .i64 c.kind, .slice kp kn kc, .slice vp vn vc], .agg #[.int .i64 d.kind, .slice kp2 kn2 kc2, .slice vp2 vn2 vc2]] w fun e w' => e = .returned (.bool (decide (c = d))) ∧ Below w.heap.size w w' := by
  obtain ⟨W, hW⟩ : ∃ W, W = (w.alloc (Obj.cells #[.int .i64 c.kind, .slice kp kn kc, .slice vp vn vc] 24)).alloc (Obj.cells #[.int .i64 d.kind, .slice kp2 kn2 kc2, .slice vp2 vn2 vc2] 24) := ⟨_, rfl⟩
  have hbW : Below w.heap.size w W := by rw [hW]; exact below_alloc2 w _ _
  have K1 : Blk W w.heap.size 24 #[.int .i64 c.kind, .slice kp kn kc, .slice vp vn vc] := by rw [hW]; exact (Blk.made w _ _).alloc _
  have K2 : Blk W (w.heap.size + 1) 24 #[.int .i64 d.kind, .slice kp2 kn2 kc2, .slice vp2 vn2 vc2] := by rw [hW]; exact Blk.made1 w _ _ _
  obtain ⟨r1, hr1⟩ : ∃ r, decide (c.keys = d.keys) = r := ⟨_, rfl⟩
  obtain ⟨r2, hr2⟩ : ∃ r, decide (c.vals = d.vals) = r := ⟨_, rfl⟩
  obtain ⟨r3, hr3⟩ : ∃ r, (c.kind == d.kind) = r := ⟨_, rfl⟩
  have hd : decide (c = d) = (r1 && r2 && r3) := by
    rw [← hr1, ← hr2, ← hr3]
    obtain ⟨ck, ckk, cv⟩ := c
    obtain ⟨dk, dkk, dv⟩ := d
    by_cases e1 : ck = dk <;> by_cases e2 : ckk = dkk <;> by_cases e3 : cv = dv <;> simp [e1, e2, e3]
  rw [hd]
  have H1 := Lib.hid fun wx (hx : Below w.heap.size w wx) => ints_any _ _ kn kn2 h1 h3 kp kp2 kc kc2 wx (a1.later hx) (a3.later hx) l1 l3
  have H2 := Lib.hid fun wx (hx : Below w.heap.size w wx) => ints_any _ _ vn vn2 h2 h4 vp vp2 vc vc2 wx (a2.later hx) (a4.later hx) l2 l4
  rw [hr1] at H1
  rw [hr2] at H2
  have x0 : ∀ d, (W.drewN d).cell? ⟨w.heap.size, 0, none⟩ = some (.int .i64 c.kind) := fun _ => K1.cell 0
  have x0b : W.cell? ⟨w.heap.size, 0, none⟩ = some (.int .i64 c.kind) := K1.cell 0
  have x2 : ∀ d1, (W.drewN d1).cell? ⟨w.heap.size, 2, none⟩ = some (.slice vp vn vc) := fun _ => K1.cell 2
  have y0 : ∀ d1, (W.drewN d1).cell? ⟨w.heap.size + 1, 0, none⟩ = some (.int .i64 d.kind) := fun _ => K2.cell 0
  have y0b : W.cell? ⟨w.heap.size + 1, 0, none⟩ = some (.int .i64 d.kind) := K2.cell 0
  have y2 : ∀ d1, (W.drewN d1).cell? ⟨w.heap.size + 1, 2, none⟩ = some (.slice vp2 vn2 vc2) := fun _ => K2.cell 2
  have HW := Lib.hid hW
  have HB := Lib.hid hbW
  have z3 := hr3
  clear hW hbW K1 K2 hr1 hr2 hr3 hd a1 a2 a3 a4 h1 h2 h3 h4
  go_enter Try.func12, Try.ntmps12
  go_wp2_with fail
  rw [← HW.out]
  refine (H1.out _ HB.out).mono ?_
  rintro e w1 ⟨rfl, d1, rfl⟩
  go_wp2_with fail
  refine (H2.out _ (below_drewN HB.out d1)).mono ?_
  rintro e w1 ⟨rfl, d2, rfl⟩
  cases r1 <;> cases r2 <;> cases r3
  all_goals
    go_wp2_with fail
    go_ret
    exact ⟨by simp, below_drewN HB.out (d1 + d2)⟩

def zeroC : Array Value := #[.int .i64 0, .slice none 0 0, .slice none 0 0]
theorem new_any (k : Int) (w : World) : Calls Try.prog 16 #[.int .i64 k] w fun e w' => e = .returned (.agg #[.int .i64 k, .slice none 0 0, .slice none 0 0]) ∧ Below w.heap.size w w' := by
  go_enter Try.func16, Try.ntmps16
  go_wp2_with fail
  exact bodyPost_ret (v := .agg #[.int .i64 k, .slice none 0 0, .slice none 0 0]) (by simp [results, Try.results16, go_sem]) rfl ⟨rfl, (Below.refl _ _).alloc (Nat.le_refl _) _⟩

set_option maxHeartbeats 1000000 in
theorem few_any (k : Int) (kn vn : Nat) (kp vp : Option Addr) (kc vc : Nat) (w : World) : Calls Try.prog 9 #[.agg #[.int .i64 k, .slice kp kn kc, .slice vp vn vc]] w fun e w' => e = .returned (.bool (decide (kn ≤ 100 ∧ vn ≤ 100))) ∧ Below w.heap.size w w' := by
  by_cases h1 : kn ≤ 100
  · by_cases h2 : vn ≤ 100
    · have HD := Lib.hid (show decide (kn ≤ 100 ∧ vn ≤ 100) = true from decide_eq_true ⟨h1, h2⟩)
      have e1 : decide ((kn : Int) ≤ 100) = true := by simp; omega
      have e2 : decide ((vn : Int) ≤ 100) = true := by simp; omega
      go_enter Try.func9, Try.ntmps9
      go_wp2_with fail
      go_ret
      exact ⟨by rw [HD.out]; rfl, (Below.refl _ _).alloc (Nat.le_refl _) _⟩
    · have HD := Lib.hid (show decide (kn ≤ 100 ∧ vn ≤ 100) = false from decide_eq_false fun h => h2 h.2)
      have e1 : decide ((kn : Int) ≤ 100) = true := by simp; omega
      have e2 : decide ((vn : Int) ≤ 100) = false := by simp; omega
      go_enter Try.func9, Try.ntmps9
      go_wp2_with fail
      go_ret
      exact ⟨by rw [HD.out]; rfl, (Below.refl _ _).alloc (Nat.le_refl _) _⟩
  · have HD := Lib.hid (show decide (kn ≤ 100 ∧ vn ≤ 100) = false from decide_eq_false fun h => h1 h.1)
    have e1 : decide ((kn : Int) ≤ 100) = false := by simp; omega
    go_enter Try.func9, Try.ntmps9
    go_wp2_with fail
    go_ret
    exact ⟨by rw [HD.out]; rfl, (Below.refl _ _).alloc (Nat.le_refl _) _⟩

/-- may two operations change places? -/
def comm (a b : OpV) : Bool := (kindOf a.kind != kindOf b.kind) || ((kindOf a.kind == 1) && ((a.a != b.a) || ((a.kind == 1) && (b.kind == 1))))
set_option maxHeartbeats 2000000 in
theorem comm_any (a b : OpV) (w : World) : Calls Try.prog 13 #[.agg #[.int .i64 a.kind, .int .i64 a.obj, .int .i64 a.a, .int .i64 a.b], .agg #[.int .i64 b.kind, .int .i64 b.obj, .int .i64 b.a, .int .i64 b.b]] w fun e w' => e = .returned (.bool (comm a b)) ∧ Below w.heap.size w w' := by
  obtain ⟨W, hW⟩ : ∃ W, W = (w.alloc (Obj.cells #[.int .i64 a.kind, .int .i64 a.obj, .int .i64 a.a, .int .i64 a.b] 26)).alloc (Obj.cells #[.int .i64 b.kind, .int .i64 b.obj, .int .i64 b.a, .int .i64 b.b] 26) := ⟨_, rfl⟩
  have hbW : Below w.heap.size w W := by rw [hW]; exact below_alloc2 w _ _
  have K1 : Blk W w.heap.size 26 #[.int .i64 a.kind, .int .i64 a.obj, .int .i64 a.a, .int .i64 a.b] := by rw [hW]; exact (Blk.made w _ _).alloc _
  have K2 : Blk W (w.heap.size + 1) 26 #[.int .i64 b.kind, .int .i64 b.obj, .int .i64 b.a, .int .i64 b.b] := by rw [hW]; exact Blk.made1 w _ _ _
  have x0 : W.cell? ⟨w.heap.size, 0, none⟩ = some (.int .i64 a.kind) := K1.cell 0
  have x2 : W.cell? ⟨w.heap.size, 2, none⟩ = some (.int .i64 a.a) := K1.cell 2
  have y0 : W.cell? ⟨w.heap.size + 1, 0, none⟩ = some (.int .i64 b.kind) := K2.cell 0
  have y2 : W.cell? ⟨w.heap.size + 1, 2, none⟩ = some (.int .i64 b.a) := K2.cell 2
  obtain ⟨R, hR⟩ : ∃ r, comm a b = r := ⟨_, rfl⟩
  rw [hR]
  obtain ⟨p, hp⟩ : ∃ k, kindOf a.kind = k := ⟨_, rfl⟩
  obtain ⟨q, hq⟩ : ∃ k, kindOf b.kind = k := ⟨_, rfl⟩
  have H1 := Lib.hid fun wx => of_kind a.kind wx
  have H2 := Lib.hid fun wx => of_kind b.kind wx
  rw [hp] at H1
  rw [hq] at H2
  unfold comm at hR
  rw [hp, hq] at hR
  have HW := Lib.hid hW
  have HB := Lib.hid hbW
  clear hW hbW K1 K2 hp hq
  by_cases hpq : p = q
  · have e1 : (p == q) = true := by simp; exact hpq
    have e2 : (p != q) = false := by simp; exact hpq
    rw [e2, Bool.false_or] at hR
    obtain ⟨r1, hr1⟩ : ∃ r, (p == 1) = r := ⟨_, rfl⟩
    obtain ⟨r2, hr2⟩ : ∃ r, (a.a != b.a) = r := ⟨_, rfl⟩
    obtain ⟨r3, hr3⟩ : ∃ r, (a.kind == 1) = r := ⟨_, rfl⟩
    obtain ⟨r4, hr4⟩ : ∃ r, (b.kind == 1) = r := ⟨_, rfl⟩
    rw [hr1, hr2, hr3, hr4] at hR
    have HR := Lib.hid hR
    clear hR hpq
    cases r1 <;> cases r2 <;> cases r3
    all_goals
      go_enter Try.func13, Try.ntmps13
      go_wp2_with fail
      rw [← HW.out]
      go_quiet (first
        | ((go_at_call 14; with_reducible exact Calls.quiet_of_same (H1.out _)))
        | ((go_at_call 14; with_reducible exact Calls.quiet_of_same (H2.out _))))
      go_wp2_with fail
      refine (H1.out _).mono ?_
      rintro e w1 ⟨rfl, rfl⟩
      go_wp2_with fail
      go_ret
      exact ⟨by rw [← HR.out]; first | rfl | simp, below_drewN HB.out nq⟩
  · have e1 : (p == q) = false := by simp; exact hpq
    have e2 : (p != q) = true := by simp; exact hpq
    rw [e2, Bool.true_or] at hR
    have HR := Lib.hid hR
    clear hR hpq
    go_enter Try.func13, Try.ntmps13
    go_wp2_with fail
    rw [← HW.out]
    go_quiet (first
      | ((go_at_call 14; with_reducible exact Calls.quiet_of_same (H1.out _)))
      | ((go_at_call 14; with_reducible exact Calls.quiet_of_same (H2.out _))))
    go_wp2_with fail
    go_ret
    exact ⟨by rw [← HR.out]; rfl, below_drewN HB.out nq⟩

theorem pair_adj (l : List Int) (h : ∀ i (h1 : i + 1 < l.length), l[i] < l[i + 1]) : l.Pairwise (· < ·) := by
  rw [List.pairwise_iff_getElem]
  intro i j hi hj hij
  induction j with
  | zero => omega
  | succ j ih =>
    have hs := h j hj
    by_cases e : i = j
    · subst e; exact hs
    · exact Int.lt_trans (ih (by omega) (by omega)) hs

set_option maxHeartbeats 4000000 in
theorem cright_any (c : ContV) (kn vn : Nat) (h1 : c.keys.length = kn) (h2 : c.vals.length = vn) (kp vp : Option Addr) (kc vc : Nat) (w : World) (a1 : Nums w kp kc c.keys) (l1 : kn ≤ 1000000) (l2 : vn ≤ 1000000) :
    Calls Try.prog 10 #[.agg #[.int .i64 c.kind, .slice kp kn kc, .slice vp vn vc]] w fun e w' => e = .returned (.bool (rightC c)) ∧ Below w.heap.size w w' := by
  obtain ⟨R, hR⟩ : ∃ r, rightC c = r := ⟨_, rfl⟩
  rw [hR]
  obtain ⟨W, hW⟩ : ∃ W, W = w.alloc (Obj.cells #[.int .i64 c.kind, .slice kp kn kc, .slice vp vn vc] 24) := ⟨_, rfl⟩
  have hbW : Below w.heap.size w W := by rw [hW]; exact below_alloc1 w _
  have K1 : Blk W w.heap.size 24 #[.int .i64 c.kind, .slice kp kn kc, .slice vp vn vc] := by rw [hW]; exact Blk.made w _ _
  have HW := Lib.hid hW
  have HB := Lib.hid hbW
  have HK := Lib.hid (a1.later hbW)
  have H1 := Lib.hid h1
  have H2 := Lib.hid h2
  have c0 : W.cell? ⟨w.heap.size, 0, none⟩ = some (.int .i64 c.kind) := K1.cell 0
  have c1 : W.cell? ⟨w.heap.size, 1, none⟩ = some (.slice kp kn kc) := K1.cell 1
  have c2 : W.cell? ⟨w.heap.size, 2, none⟩ = some (.slice vp vn vc) := K1.cell 2
  clear hW hbW K1 a1 h1 h2
  unfold rightC at hR
  by_cases k1 : c.kind = 1
  · rw [if_pos k1] at hR
    have e1 : (c.kind == 1) = true := by simp; exact k1
    have HR := Lib.hid hR
    clear hR k1
    go_enter Try.func10, Try.ntmps10
    go_wp2_with fail
    rw [← HW.out]
    go_loopw [3] (fun i wr => ∃ k x : Nat, i = .int .i64 k ∧ 1 ≤ k ∧ (k ≤ kn ∨ k = 1) ∧ wr = W.drewN x ∧ Hid (∀ j (h1 : j + 1 < c.keys.length), j + 1 < k → c.keys[j] < c.keys[j + 1])) (fun i _ => kn - (intOf i).toNat)
    case atStart => exact ⟨1, 0, rfl, by omega, .inr rfl, rfl, Lib.hid (fun j _ hj => by omega)⟩
    case round =>
      obtain ⟨k, x, rfl, hk1, hk, rfl, HE⟩ := hrel
      by_cases hlt : k < kn
      · obtain ⟨m, hm⟩ : ∃ m, k = m + 1 := ⟨k - 1, by omega⟩
        have hkl : k < c.keys.length := by rw [H1.out]; exact hlt
        have hml : m < c.keys.length := by omega
        have hmn : m < kn := by omega
        obtain ⟨b1, o1, hp1, _, g0⟩ := HK.out.at_ k hkl
        obtain ⟨b2, o2, hp2, _, f0⟩ := HK.out.at_ m hml
        obtain ⟨rfl, rfl⟩ : b2 = b1 ∧ o2 = o1 := by rw [hp1] at hp2; injection hp2 with e; injection e with e1 e2; exact ⟨e1.symm, e2.symm⟩
        have e3 : (k : Int) - 1 = (m : Int) := by omega
        have e4 : IntKind.i64.wrap ((k : Int) - 1) = (m : Int) := by rw [IntKind.wrap_i64]; omega
        obtain ⟨y, hy⟩ : ∃ y, c.keys[k] = y := ⟨_, rfl⟩
        obtain ⟨z, hz⟩ : ∃ z, c.keys[m] = z := ⟨_, rfl⟩
        rw [hy] at g0
        rw [hz] at f0
        have HM := Lib.hid hm
        have HY := Lib.hid hy
        have HZ := Lib.hid hz
        subst hp1
        clear hm hy hz hp2
        by_cases hyz : y ≤ z
        · have d1 : decide (y ≤ z) = true := by simp; exact hyz
          have hr : R = false := by
            rw [← HR.out, Bool.and_eq_false_iff]
            refine .inl (decide_eq_false fun hp => ?_)
            have h := sorted_lt hp m k hml hkl (by have := HM.out; omega)
            rw [HY.out, HZ.out] at h
            omega
          have HRR := Lib.hid hr
          clear hr hyz
          go_wp2_with fail
          go_quiet (fail)
          go_wp2_with fail
          go_ret
          exact ⟨by rw [HRR.out]; rfl, below_drewN (below_drewN HB.out x) nq⟩
        · have d1 : decide (y ≤ z) = false := by simp; omega
          have HYZ := Lib.hid hyz
          clear hyz
          go_wp2_with fail
          go_quiet (fail)
          go_wp2_with fail
          go_roundw
          case rel =>
            refine ⟨k + 1, x + nq, by simp, by omega, .inl (by omega), rfl, Lib.hid (fun j h1 hj => ?_)⟩
            by_cases e : j + 1 = k
            · have hjm : j = m := by have := HM.out; omega
              subst hjm
              have h5 : c.keys[j + 1] = y := by rw [← HY.out]; congr 1
              rw [h5, HZ.out]
              have := HYZ.out
              omega
            · exact HE.out j h1 (by omega)
          case measure => simp [intOf]; omega
      · have hdk : decide ((k : Int) < kn) = false := by simp; omega
        have hp : c.keys.Pairwise (· < ·) := pair_adj _ fun i h => HE.out i h (by rw [H1.out] at h; omega)
        by_cases hkv : kn = vn
        · have hr : R = true := by rw [← HR.out, decide_eq_true hp, Bool.true_and]; exact decide_eq_true (by rw [H1.out, H2.out, hkv])
          have HRR := Lib.hid hr
          have e5 : ((kn : Int) == vn) = true := by simp; omega
          clear hr hp hkv
          go_wp2_with fail
          go_ret
          exact ⟨by rw [HRR.out]; rfl, below_drewN HB.out x⟩
        · have hr : R = false := by rw [← HR.out, decide_eq_true hp, Bool.true_and]; exact decide_eq_false (by rw [H1.out, H2.out]; exact hkv)
          have HRR := Lib.hid hr
          have e5 : ((kn : Int) == vn) = false := by simp; omega
          clear hr hp hkv
          go_wp2_with fail
          go_ret
          exact ⟨by rw [HRR.out]; rfl, below_drewN HB.out x⟩
  · rw [if_neg k1] at hR
    have e1 : (c.kind == 1) = false := by simp; exact k1
    by_cases k23 : c.kind = 2 ∨ c.kind = 3
    · rw [if_pos k23] at hR
      by_cases hk0 : kn = 0
      · have HRR : Hid (R = true) := Lib.hid (by rw [← hR]; exact decide_eq_true (by rw [H1.out, hk0]))
        have e5 : ((kn : Int) == 0) = true := by simp; exact hk0
        clear hR k1 hk0
        rcases k23 with k2 | k3
        · have e2 : (c.kind == 2) = true := by simp; exact k2
          clear k2
          go_enter Try.func10, Try.ntmps10
          go_wp2_with fail
          go_ret
          exact ⟨by rw [HRR.out]; rfl, by rw [← HW.out]; exact HB.out⟩
        · have e2 : (c.kind == 2) = false := by simp; omega
          have e3 : (c.kind == 3) = true := by simp; exact k3
          clear k3
          go_enter Try.func10, Try.ntmps10
          go_wp2_with fail
          go_ret
          exact ⟨by rw [HRR.out]; rfl, by rw [← HW.out]; exact HB.out⟩
      · have HRR : Hid (R = false) := Lib.hid (by rw [← hR]; exact decide_eq_false (by rw [H1.out]; exact hk0))
        have e5 : ((kn : Int) == 0) = false := by simp; exact hk0
        clear hR k1 hk0
        rcases k23 with k2 | k3
        · have e2 : (c.kind == 2) = true := by simp; exact k2
          clear k2
          go_enter Try.func10, Try.ntmps10
          go_wp2_with fail
          go_ret
          exact ⟨by rw [HRR.out]; rfl, by rw [← HW.out]; exact HB.out⟩
        · have e2 : (c.kind == 2) = false := by simp; omega
          have e3 : (c.kind == 3) = true := by simp; exact k3
          clear k3
          go_enter Try.func10, Try.ntmps10
          go_wp2_with fail
          go_ret
          exact ⟨by rw [HRR.out]; rfl, by rw [← HW.out]; exact HB.out⟩
    · rw [if_neg k23] at hR
      have HRR := Lib.hid hR.symm
      have e2 : (c.kind == 2) = false := by simp; omega
      have e3 : (c.kind == 3) = false := by simp; omega
      clear hR k1 k23
      go_enter Try.func10, Try.ntmps10
      go_wp2_with fail
      go_ret
      exact ⟨by rw [HRR.out]; rfl, by rw [← HW.out]; exact HB.out⟩
end Go.Proofs.Ythbpoagkfpalfaa
