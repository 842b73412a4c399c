/-
  SPEC: find, with, without.
-/
import Derived.Test.YthbpoagkfpalfaaRows
import Derived.ProofKit
import Derived.Deep.QuietTactic
import Derived.BigQuiet
import Derived.LoopTactic
import Derived.Test.YthbpoagkfpalfaaSpecA
import Derived.Test.YthbpoagkfpalfaaGrow
namespace Go.Proofs.Ythbpoagkfpalfaa
open Go.ChangeShapes Go.WideShapes Go.ChangeAt Go.RowKit

/-- how many numbers a list begins with that are less -/
def lbP (l : List Int) (x : Int) : Nat := (l.takeWhile fun y => decide (y < x)).length
theorem lb_at (x : Int) : ∀ (l : List Int) (k : Nat), k ≤ l.length → (∀ i (h : i < l.length), i < k → l[i] < x) → (∀ (h : k < l.length), x ≤ l[k]) → lbP l x = k
  | [], k, hk, _, _ => by have : k = 0 := by simpa using hk
                          subst this; rfl
  | c :: l, 0, _, _, h => by
    have := h (by simp)
    unfold lbP
    rw [List.takeWhile_cons, if_neg (by simp; simpa using this)]; rfl
  | c :: l, k + 1, hk, ha, h => by
    have hc : c < x := ha 0 (by simp) (by omega)
    have := lb_at x l k (by simpa using hk) (fun i hi hik => by have := ha (i + 1) (by simpa using hi) (by omega); simpa using this) (fun hkl => by have := h (by simpa using hkl); simpa using this)
    unfold lbP at this ⊢
    rw [List.takeWhile_cons, if_pos (by simp; exact hc), List.length_cons, this]
def isP (l : List Int) (x : Int) : Bool := l[lbP l x]? == some x

theorem sorted_lt {l : List Int} (h : l.Pairwise (· < ·)) (i j : Nat) (hi : i < l.length) (hj : j < l.length) (hij : i < j) : l[i] < l[j] := List.pairwise_iff_getElem.1 h i j hi hj hij

set_option maxHeartbeats 2000000 in
theorem find_any (l : List Int) (n : Nat) (hn : l.length = n) (hs : l.Pairwise (· < ·)) (p : Option Addr) (c : Nat) (x : Int) (w : World) (h : Nums w p c l) (hle : n ≤ 100000) :
    Calls Try.prog 27 #[.slice p n c, .int .i64 x] w fun e w' => e = .returned (.tuple #[.int .i64 (lbP l x : Nat), .bool (isP l x)]) ∧ ∃ d, w' = w.drewN d := by
  have HH := Lib.hid h
  have HN := Lib.hid hn
  have HS := Lib.hid hs
  obtain ⟨A, hA⟩ : ∃ k, lbP l x = k := ⟨_, rfl⟩
  obtain ⟨Q, hQ⟩ : ∃ q, isP l x = q := ⟨_, rfl⟩
  rw [hA, hQ]
  have HA := Lib.hid hA
  have HQ := Lib.hid hQ
  clear h hn hs hA hQ
  go_enter Try.func27, Try.ntmps27
  go_wp2_with fail
  go_loop [6, 7] (fun lo hi => ∃ a b : Nat, lo = .int .i64 a ∧ hi = .int .i64 b ∧ a ≤ b ∧ b ≤ n ∧ Hid (∀ i (h : i < l.length), i < a → l[i] < x) ∧ Hid (∀ i (h : i < l.length), b ≤ i → x ≤ l[i])) (fun lo hi => (intOf hi).toNat - (intOf lo).toNat)
  case atStart => exact ⟨0, n, rfl, rfl, by omega, by omega, Lib.hid (fun i h hi => absurd hi (by omega)), Lib.hid (fun i h hi => absurd h (by rw [HN.out]; omega))⟩
  case round =>
    obtain ⟨a, b, rfl, rfl, hab, hbn, HL, HR⟩ := hrel
    by_cases hlt : a < b
    · obtain ⟨m, hm⟩ : ∃ m, m = (a + b) / 2 := ⟨_, rfl⟩
      have e1 : ((a : Int) + (b : Int)) / 2 = (m : Int) := by omega
      have e2 : Int.tdiv ((a : Int) + (b : Int)) 2 = (m : Int) := by rw [Int.tdiv_eq_ediv_of_nonneg (by omega)]; exact e1
      have hmn : m < n := by omega
      have hma : a ≤ m := by omega
      have hmb : m < b := by omega
      have hml : m < l.length := by rw [HN.out]; exact hmn
      clear hm
      obtain ⟨bb, off, rfl, hlb, g0⟩ := HH.out.at_ m hml
      obtain ⟨y, hy⟩ : ∃ y, l[m] = y := ⟨_, rfl⟩
      rw [hy] at g0
      have HY := Lib.hid hy
      clear hy
      by_cases hyx : y < x
      · have HYX := Lib.hid hyx
        go_wp2_with fail
        go_round
        case rel =>
          refine ⟨m + 1, b, by simp, rfl, by omega, hbn, Lib.hid (fun i hi hia => ?_), HR⟩
          by_cases e : i = m
          · subst e; rw [HY.out]; exact HYX.out
          · have h1 := sorted_lt HS.out i m hi hml (by omega)
            rw [HY.out] at h1
            have := HYX.out
            omega
        case measure => simp [intOf]; omega
      · have HYX := Lib.hid hyx
        go_wp2_with fail
        go_round
        case rel =>
          refine ⟨a, m, rfl, rfl, hma, by omega, HL, Lib.hid (fun i hi him => ?_)⟩
          by_cases e : i = m
          · subst e; rw [HY.out]; have := HYX.out; omega
          · have h1 := sorted_lt HS.out m i hml hi (by omega)
            rw [HY.out] at h1
            have := HYX.out
            omega
        case measure => simp [intOf]; omega
    · obtain rfl : a = b := by omega
      have hlb : lbP l x = a := lb_at x l a (by rw [HN.out]; exact hbn) HL.out (fun h => HR.out a h (Nat.le_refl _))
      have his : isP l x = (l[a]? == some x) := by unfold isP; rw [hlb]
      have HA2 : Hid (A = a) := Lib.hid (HA.out.symm.trans hlb)
      have hq0 : Q = (l[a]? == some x) := HQ.out.symm.trans his
      have hda : decide ((a : Int) < a) = false := by simp
      clear hlb his hlt
      by_cases han : a < n
      · have hal : a < l.length := by rw [HN.out]; exact han
        obtain ⟨bb, off, rfl, hlb, g0⟩ := HH.out.at_ a hal
        rw [List.getElem?_eq_getElem hal] at hq0
        obtain ⟨y, hy⟩ : ∃ y, l[a] = y := ⟨_, rfl⟩
        rw [hy] at g0 hq0
        clear hy
        obtain ⟨q, hq⟩ : ∃ q, (y == x) = q := ⟨_, rfl⟩
        have hqq : Hid (Q = q) := Lib.hid (by rw [hq0, ← hq]; rfl)
        clear hq0
        go_wp2_with fail
        go_quiet (fail)
        go_wp2_with fail
        exact bodyPost_ret (v := .tuple #[.int .i64 (a : Nat), .bool q]) (by simp [results, Try.results27, go_sem]) rfl ⟨by rw [hqq.out, HA2.out], _, rfl⟩
      · have hdn : decide (a < n) = false := by simp; omega
        rw [List.getElem?_eq_none (by rw [HN.out]; omega)] at hq0
        have hqq : Hid (Q = false) := Lib.hid (by rw [hq0]; rfl)
        clear hq0
        go_wp2_with fail
        go_quiet (fail)
        go_wp2_with fail
        exact bodyPost_ret (v := .tuple #[.int .i64 (a : Nat), .bool false]) (by simp [results, Try.results27, go_sem]) rfl ⟨by rw [hqq.out, HA2.out], _, rfl⟩

def partsM (m : Nat) (parts : List (List Int)) : Maker := ⟨fun v => ∃ g, v = .slice (some ⟨g, 0, none⟩) m m, fun v w => ∃ g, v = .slice (some ⟨g, 0, none⟩) m m ∧ PartsAt w g parts, ⟨_, 0, rfl⟩,
  fun _ _ _ ⟨g, h1, h2⟩ hb => ⟨g, h1, h2.later hb⟩⟩
theorem parts_fact {m g : Nat} {parts : List (List Int)} {w : World} (h : (partsM m parts).S (.slice (some ⟨g, 0, none⟩) m m) w) : PartsAt w g parts := by
  obtain ⟨g', e, hc⟩ := h
  injection e with e
  injection e with e
  injection e with e
  rw [e]; exact hc
def numsM (B n : Nat) (xs : List Int) : Maker := ⟨fun v => ∃ q cap, v = .slice q n cap, fun v w => ∃ q cap, v = .slice q n cap ∧ Nums w q cap xs ∧ ∀ b off, q = some ⟨b, off, none⟩ → B ≤ b, ⟨_, none, 0, rfl⟩,
  fun _ _ _ ⟨q, c, h1, h2, h3⟩ hb => ⟨q, c, h1, h2.later hb, h3⟩⟩
theorem nums_make {P : Program} {w : World} {f : FuncId} {args : Array Value} {B n : Nat} {xs : List Int} (hn : xs.length = n) (hB : B ≤ w.heap.size) (h : Calls P f args w (NumsPost w xs)) : makeUpon P (numsM B n xs) w (.ok (.enter f args) w) := by
  subst hn
  exact make_call (h.mono fun _ _ ⟨p, c, he, hc, hb, hl⟩ => ⟨_, he, ⟨p, c, rfl⟩, ⟨p, c, rfl, hc, fun b off h => Nat.le_trans hB (hl b off h)⟩, hb⟩)
theorem nums_fact {B n c : Nat} {xs : List Int} {p : Option Addr} {w : World} (h : (numsM B n xs).S (.slice p n c) w) : Nums w p c xs ∧ ∀ b off, p = some ⟨b, off, none⟩ → B ≤ b := by
  obtain ⟨p', c', e, hc, hl⟩ := h
  injection e with e1 e2 e3
  rw [e1, e3]; exact ⟨hc, hl⟩
theorem row_int_fact {t : TypeId} {x : Int} {g : Nat} {w : World} (h : (Maker.row t #[.int .i64 x]).S (.slice (some ⟨g, 0, none⟩) 1 1) w) : Nums w (some ⟨g, 0, none⟩) 1 [x] := by
  obtain ⟨g', e, hc⟩ := h
  injection e with e
  injection e with e
  injection e with e
  rw [e]; exact Nums.of_blk hc rfl (by simp) (by unfold maxLen; omega)

theorem parts3_build {P : Program} {w : World} {t : TypeId} {p1 p2 p3 : Option Addr} {n1 n2 n3 c1 c2 c3 : Nat} {a b c : List Int} (ha : a.length = n1) (hb : b.length = n2) (hc : c.length = n3) (h1 : Nums w p1 c1 a) (h2 : Nums w p2 c2 b) (h3 : Nums w p3 c3 c) :
    makeUpon P (partsM 3 [a, b, c]) w (.ok (.value (.slice (some ⟨w.heap.size, 0, none⟩) 3 3)) (w.alloc (Obj.cells #[.slice p1 n1 c1, .slice p2 n2 c2, .slice p3 n3 c3] t))) := by
  subst ha; subst hb; subst hc
  have hB : Below w.heap.size w (w.alloc (Obj.cells #[.slice p1 a.length c1, .slice p2 b.length c2, .slice p3 c.length c3] t)) := (Below.refl _ w).alloc (Nat.le_refl _) _
  have hk := Blk.made w t #[.slice p1 a.length c1, .slice p2 b.length c2, .slice p3 c.length c3]
  refine ⟨⟨_, rfl⟩, ⟨_, rfl, hk.lt, fun i hi => ?_⟩, hB⟩
  rcases (show i = 0 ∨ i = 1 ∨ i = 2 by simp at hi; omega) with rfl | rfl | rfl
  · exact ⟨p1, c1, hk.cell 0, h1.later hB⟩
  · exact ⟨p2, c2, hk.cell 1, h2.later hB⟩
  · exact ⟨p3, c3, hk.cell 2, h3.later hB⟩
theorem parts2_build {P : Program} {w : World} {t : TypeId} {p1 p2 : Option Addr} {n1 n2 c1 c2 : Nat} {a b : List Int} (ha : a.length = n1) (hb : b.length = n2) (h1 : Nums w p1 c1 a) (h2 : Nums w p2 c2 b) :
    makeUpon P (partsM 2 [a, b]) w (.ok (.value (.slice (some ⟨w.heap.size, 0, none⟩) 2 2)) (w.alloc (Obj.cells #[.slice p1 n1 c1, .slice p2 n2 c2] t))) := by
  subst ha; subst hb
  have hB : Below w.heap.size w (w.alloc (Obj.cells #[.slice p1 a.length c1, .slice p2 b.length c2] t)) := (Below.refl _ w).alloc (Nat.le_refl _) _
  have hk := Blk.made w t #[.slice p1 a.length c1, .slice p2 b.length c2]
  refine ⟨⟨_, rfl⟩, ⟨_, rfl, hk.lt, fun i hi => ?_⟩, hB⟩
  rcases (show i = 0 ∨ i = 1 by simp at hi; omega) with rfl | rfl
  · exact ⟨p1, c1, hk.cell 0, h1.later hB⟩
  · exact ⟨p2, c2, hk.cell 1, h2.later hB⟩

set_option maxRecDepth 100000 in
set_option maxHeartbeats 4000000 in
theorem with_any (l : List Int) (n : Nat) (hn : l.length = n) (p : Option Addr) (c at_ : Nat) (x : Int) (w : World) (h : Nums w p c l) (hat : at_ ≤ n) (hle : n ≤ 50000) :
    Calls Try.prog 28 #[.slice p n c, .int .i64 at_, .int .i64 x] w (NumsPost w (l.take at_ ++ x :: l.drop at_)) := by
  obtain ⟨L, hL⟩ : ∃ L, l.take at_ ++ x :: l.drop at_ = L := ⟨_, rfl⟩
  obtain ⟨nL, hnL⟩ : ∃ n, L.length = n := ⟨_, rfl⟩
  have hLn : nL = n + 1 := by rw [← hnL, ← hL, List.length_append, List.length_cons, List.length_take, List.length_drop, hn]; omega
  have HLL : Hid ([l.take at_, [x], l.drop at_].flatten = L) := Lib.hid (by rw [← hL]; simp)
  rw [hL]
  have hcn := h.le
  have hcm := h.big
  unfold maxLen at hcm
  rw [hn] at hcn
  have HT : Hid ((l.take at_).length = at_) := Lib.hid (by rw [List.length_take, hn]; omega)
  have HD : Hid ((l.drop at_).length = n - at_) := Lib.hid (by rw [List.length_drop, hn])
  have HTN := Lib.hid (h.take at_)
  have HNL := Lib.hid hnL
  have HN := Lib.hid hn
  have HH := Lib.hid h
  have hnle : nL ≤ 50001 := by omega
  clear hL hnL hn h hLn
  cases p with
  | none =>
    have hc0 : c = 0 := HH.out.nil rfl
    subst hc0
    obtain rfl : n = 0 := by omega
    obtain rfl : at_ = 0 := by omega
    have hdr : Hid (Nums w none 0 (l.drop 0)) := Lib.hid (by rw [List.length_eq_zero_iff.1 HN.out]; exact Nums.nix w)
    go_enter Try.func28, Try.ntmps28
    go_wp2_with fail
    refine wp_region_grow [(4, Maker.row 3 #[.int .i64 x]), (8, partsM 3 [l.take 0, [x], l.drop 0]), (9, numsM w.heap.size nL L)] (by kernel_rfl) (by kernel_rfl) (by kernel_rfl) ?_
    (refine wpGrow_plain rfl ?_; go_big_quiet_step (fail); refine wpQuiet_nil ?_)
    (refine wpGrow_plain rfl ?_; go_big_quiet_step (fail); refine wpQuiet_nil ?_)
    (refine wpGrow_plain rfl ?_; go_big_quiet_step (fail); refine wpQuiet_nil ?_)
    (refine wpGrow_plain rfl ?_; go_big_quiet_step (fail); refine wpQuiet_nil ?_)
    refine wpGrow_any _ rfl rfl (fun _ hx hF => ?_) (fun v hv a' ha => ?_)
    · obtain ⟨x9, rfl⟩ := hx
      go_simp
      exact make_row
    obtain ⟨g4, rfl⟩ := hv
    simp [go_sem] at ha
    subst ha
    (refine wpGrow_plain rfl ?_; go_big_quiet_step (fail); refine wpQuiet_nil ?_)
    (refine wpGrow_plain rfl ?_; go_big_quiet_step (fail); refine wpQuiet_nil ?_)
    (refine wpGrow_plain rfl ?_; go_big_quiet_step (fail); refine wpQuiet_nil ?_)
    refine wpGrow_any _ rfl rfl (fun _ hx hF => ?_) (fun v hv a' ha => ?_)
    · obtain ⟨x9, rfl⟩ := hx
      go_simp
      have q4 := row_int_fact (show (Maker.row 3 #[.int .i64 x]).S _ x9.w from hF 4 ⟨[], by kernel_rfl⟩)
      exact parts3_build HT.out rfl HD.out ((HTN.out).later x9.bel) q4 (hdr.out.later x9.bel)
    obtain ⟨g8, rfl⟩ := hv
    simp [go_sem] at ha
    subst ha
    refine wpGrow_any _ rfl rfl (fun _ hx hF => ?_) (fun v hv a' ha => ?_)
    · obtain ⟨x9, rfl⟩ := hx
      go_simp
      have q8 := parts_fact (show (partsM 3 [l.take 0, [x], l.drop 0]).S _ x9.w from hF 8 ⟨[], by kernel_rfl⟩)
      exact nums_make HNL.out x9.bel.size (by have := concat_any [l.take 0, [x], l.drop 0] _ 3 rfl x9.w q8 (by rw [HLL.out, HNL.out]; omega) (by omega); rw [HLL.out] at this; exact this)
    obtain ⟨q9, c9, rfl⟩ := hv
    simp [go_sem] at ha
    subst ha
    (refine wpGrow_plain rfl ?_; go_big_quiet_step (fail); refine wpQuiet_nil ?_)
    refine wpGrow_nil ?_
    rintro _ ⟨y, rfl⟩ hF
    have hfin := nums_fact (show (numsM w.heap.size nL L).S _ y.w from hF 9)
    have HFIN := Lib.hid hfin
    clear hF hfin
    go_wp2_with fail
    go_ret
    exact ⟨_, _, by rw [HNL.out]; rfl, HFIN.out.1, y.bel, HFIN.out.2⟩
  | some ad =>
    have hdr := HH.out.drop at_ (by rw [HN.out]; exact hat)
    by_cases hca : c = at_
    · rw [if_pos hca, show c - at_ = 0 by omega] at hdr
      have HDR := Lib.hid hdr
      have htn2 := HTN.out
      rw [hca] at htn2
      have HTN := Lib.hid htn2
      clear hdr htn2
      go_enter Try.func28, Try.ntmps28
      go_wp2_with fail
      refine wp_region_grow [(4, Maker.row 3 #[.int .i64 x]), (8, partsM 3 [l.take at_, [x], l.drop at_]), (9, numsM w.heap.size nL L)] (by kernel_rfl) (by kernel_rfl) (by kernel_rfl) ?_
      (refine wpGrow_plain rfl ?_; go_big_quiet_step (fail); refine wpQuiet_nil ?_)
      (refine wpGrow_plain rfl ?_; go_big_quiet_step (fail); refine wpQuiet_nil ?_)
      (refine wpGrow_plain rfl ?_; go_big_quiet_step (fail); refine wpQuiet_nil ?_)
      (refine wpGrow_plain rfl ?_; go_big_quiet_step (fail); refine wpQuiet_nil ?_)
      refine wpGrow_any _ rfl rfl (fun _ hx hF => ?_) (fun v hv a' ha => ?_)
      · obtain ⟨x9, rfl⟩ := hx
        go_simp
        exact make_row
      obtain ⟨g4, rfl⟩ := hv
      simp [go_sem] at ha
      subst ha
      (refine wpGrow_plain rfl ?_; go_big_quiet_step (fail); refine wpQuiet_nil ?_)
      (refine wpGrow_plain rfl ?_; go_big_quiet_step (fail); refine wpQuiet_nil ?_)
      (refine wpGrow_plain rfl ?_; go_big_quiet_step (fail); refine wpQuiet_nil ?_)
      refine wpGrow_any _ rfl rfl (fun _ hx hF => ?_) (fun v hv a' ha => ?_)
      · obtain ⟨x9, rfl⟩ := hx
        go_simp
        have q4 := row_int_fact (show (Maker.row 3 #[.int .i64 x]).S _ x9.w from hF 4 ⟨[], by kernel_rfl⟩)
        exact parts3_build HT.out rfl HD.out ((HTN.out).later x9.bel) q4 (HDR.out.later x9.bel)
      obtain ⟨g8, rfl⟩ := hv
      simp [go_sem] at ha
      subst ha
      refine wpGrow_any _ rfl rfl (fun _ hx hF => ?_) (fun v hv a' ha => ?_)
      · obtain ⟨x9, rfl⟩ := hx
        go_simp
        have q8 := parts_fact (show (partsM 3 [l.take at_, [x], l.drop at_]).S _ x9.w from hF 8 ⟨[], by kernel_rfl⟩)
        exact nums_make HNL.out x9.bel.size (by have := concat_any [l.take at_, [x], l.drop at_] _ 3 rfl x9.w q8 (by rw [HLL.out, HNL.out]; omega) (by omega); rw [HLL.out] at this; exact this)
      obtain ⟨q9, c9, rfl⟩ := hv
      simp [go_sem] at ha
      subst ha
      (refine wpGrow_plain rfl ?_; go_big_quiet_step (fail); refine wpQuiet_nil ?_)
      refine wpGrow_nil ?_
      rintro _ ⟨y, rfl⟩ hF
      have hfin := nums_fact (show (numsM w.heap.size nL L).S _ y.w from hF 9)
      have HFIN := Lib.hid hfin
      clear hF hfin
      go_wp2_with fail
      go_ret
      exact ⟨_, _, by rw [HNL.out]; rfl, HFIN.out.1, y.bel, HFIN.out.2⟩
    · rw [if_neg hca] at hdr
      have HDR := Lib.hid hdr
      clear hdr
      go_enter Try.func28, Try.ntmps28
      go_wp2_with fail
      refine wp_region_grow [(4, Maker.row 3 #[.int .i64 x]), (8, partsM 3 [l.take at_, [x], l.drop at_]), (9, numsM w.heap.size nL L)] (by kernel_rfl) (by kernel_rfl) (by kernel_rfl) ?_
      (refine wpGrow_plain rfl ?_; go_big_quiet_step (fail); refine wpQuiet_nil ?_)
      (refine wpGrow_plain rfl ?_; go_big_quiet_step (fail); refine wpQuiet_nil ?_)
      (refine wpGrow_plain rfl ?_; go_big_quiet_step (fail); refine wpQuiet_nil ?_)
      (refine wpGrow_plain rfl ?_; go_big_quiet_step (fail); refine wpQuiet_nil ?_)
      refine wpGrow_any _ rfl rfl (fun _ hx hF => ?_) (fun v hv a' ha => ?_)
      · obtain ⟨x9, rfl⟩ := hx
        go_simp
        exact make_row
      obtain ⟨g4, rfl⟩ := hv
      simp [go_sem] at ha
      subst ha
      (refine wpGrow_plain rfl ?_; go_big_quiet_step (fail); refine wpQuiet_nil ?_)
      (refine wpGrow_plain rfl ?_; go_big_quiet_step (fail); refine wpQuiet_nil ?_)
      (refine wpGrow_plain rfl ?_; go_big_quiet_step (fail); refine wpQuiet_nil ?_)
      refine wpGrow_any _ rfl rfl (fun _ hx hF => ?_) (fun v hv a' ha => ?_)
      · obtain ⟨x9, rfl⟩ := hx
        go_simp
        have q4 := row_int_fact (show (Maker.row 3 #[.int .i64 x]).S _ x9.w from hF 4 ⟨[], by kernel_rfl⟩)
        exact parts3_build HT.out rfl HD.out ((HTN.out).later x9.bel) q4 (HDR.out.later x9.bel)
      obtain ⟨g8, rfl⟩ := hv
      simp [go_sem] at ha
      subst ha
      refine wpGrow_any _ rfl rfl (fun _ hx hF => ?_) (fun v hv a' ha => ?_)
      · obtain ⟨x9, rfl⟩ := hx
        go_simp
        have q8 := parts_fact (show (partsM 3 [l.take at_, [x], l.drop at_]).S _ x9.w from hF 8 ⟨[], by kernel_rfl⟩)
        exact nums_make HNL.out x9.bel.size (by have := concat_any [l.take at_, [x], l.drop at_] _ 3 rfl x9.w q8 (by rw [HLL.out, HNL.out]; omega) (by omega); rw [HLL.out] at this; exact this)
      obtain ⟨q9, c9, rfl⟩ := hv
      simp [go_sem] at ha
      subst ha
      (refine wpGrow_plain rfl ?_; go_big_quiet_step (fail); refine wpQuiet_nil ?_)
      refine wpGrow_nil ?_
      rintro _ ⟨y, rfl⟩ hF
      have hfin := nums_fact (show (numsM w.heap.size nL L).S _ y.w from hF 9)
      have HFIN := Lib.hid hfin
      clear hF hfin
      go_wp2_with fail
      go_ret
      exact ⟨_, _, by rw [HNL.out]; rfl, HFIN.out.1, y.bel, HFIN.out.2⟩

set_option maxRecDepth 100000 in
set_option maxHeartbeats 4000000 in
theorem without_any (l : List Int) (n : Nat) (hn : l.length = n) (p : Option Addr) (c at_ : Nat) (w : World) (h : Nums w p c l) (hat : at_ < n) (hle : n ≤ 50000) :
    Calls Try.prog 29 #[.slice p n c, .int .i64 at_] w (NumsPost w (l.take at_ ++ l.drop (at_ + 1))) := by
  obtain ⟨m, hm⟩ : ∃ m, at_ + 1 = m := ⟨_, rfl⟩
  rw [hm]
  have e1 : IntKind.i64.wrap ((at_ : Int) + 1) = (m : Int) := by rw [IntKind.wrap_i64]; omega
  have e2 : (at_ : Int) + 1 = (m : Int) := by omega
  have hmn : m ≤ n := by omega
  obtain ⟨L, hL⟩ : ∃ L, l.take at_ ++ l.drop m = L := ⟨_, rfl⟩
  obtain ⟨nL, hnL⟩ : ∃ n, L.length = n := ⟨_, rfl⟩
  have hLn : nL + 1 = n := by rw [← hnL, ← hL, List.length_append, List.length_take, List.length_drop, hn]; omega
  have HLL : Hid ([l.take at_, l.drop m].flatten = L) := Lib.hid (by rw [← hL]; simp)
  rw [hL]
  have hcn := h.le
  have hcm := h.big
  unfold maxLen at hcm
  rw [hn] at hcn
  have HT : Hid ((l.take at_).length = at_) := Lib.hid (by rw [List.length_take, hn]; omega)
  have HD : Hid ((l.drop m).length = n - m) := Lib.hid (by rw [List.length_drop, hn])
  have HTN := Lib.hid (h.take at_)
  have HNL := Lib.hid hnL
  have HN := Lib.hid hn
  have HH := Lib.hid h
  have hnle : nL ≤ 50000 := by omega
  clear hL hnL hn h hLn hm
  cases p with
  | none =>
    have hc0 : c = 0 := HH.out.nil rfl
    omega
  | some ad =>
    have hdr := HH.out.drop m (by rw [HN.out]; exact hmn)
    by_cases hca : c = m
    · rw [if_pos hca, show c - m = 0 by omega] at hdr
      have HDR := Lib.hid hdr
      have htn2 := HTN.out
      rw [hca] at htn2
      have HTN := Lib.hid htn2
      clear hdr htn2
      go_enter Try.func29, Try.ntmps29
      go_wp2_with fail
      refine wp_region_grow [(7, partsM 2 [l.take at_, l.drop m]), (8, numsM w.heap.size nL L)] (by kernel_rfl) (by kernel_rfl) (by kernel_rfl) ?_
      (refine wpGrow_plain rfl ?_; go_big_quiet_step (fail); refine wpQuiet_nil ?_)
      (refine wpGrow_plain rfl ?_; go_big_quiet_step (fail); refine wpQuiet_nil ?_)
      (refine wpGrow_plain rfl ?_; go_big_quiet_step (fail); refine wpQuiet_nil ?_)
      (refine wpGrow_plain rfl ?_; go_big_quiet_step (fail); refine wpQuiet_nil ?_)
      (refine wpGrow_plain rfl ?_; go_big_quiet_step (fail); refine wpQuiet_nil ?_)
      (refine wpGrow_plain rfl ?_; go_big_quiet_step (fail); refine wpQuiet_nil ?_)
      (refine wpGrow_plain rfl ?_; go_big_quiet_step (fail); refine wpQuiet_nil ?_)
      refine wpGrow_any _ rfl rfl (fun _ hx hF => ?_) (fun v hv a' ha => ?_)
      · obtain ⟨x9, rfl⟩ := hx
        go_simp
        exact parts2_build HT.out HD.out ((HTN.out).later x9.bel) (HDR.out.later x9.bel)
      obtain ⟨g8, rfl⟩ := hv
      simp [go_sem] at ha
      subst ha
      refine wpGrow_any _ rfl rfl (fun _ hx hF => ?_) (fun v hv a' ha => ?_)
      · obtain ⟨x9, rfl⟩ := hx
        go_simp
        have q8 := parts_fact (show (partsM 2 [l.take at_, l.drop m]).S _ x9.w from hF 7 ⟨[], by kernel_rfl⟩)
        exact nums_make HNL.out x9.bel.size (by have := concat_any [l.take at_, l.drop m] _ 2 rfl x9.w q8 (by rw [HLL.out, HNL.out]; omega) (by omega); rw [HLL.out] at this; exact this)
      obtain ⟨q9, c9, rfl⟩ := hv
      simp [go_sem] at ha
      subst ha
      (refine wpGrow_plain rfl ?_; go_big_quiet_step (fail); refine wpQuiet_nil ?_)
      refine wpGrow_nil ?_
      rintro _ ⟨y, rfl⟩ hF
      have hfin := nums_fact (show (numsM w.heap.size nL L).S _ y.w from hF 8)
      have HFIN := Lib.hid hfin
      clear hF hfin
      go_wp2_with fail
      go_ret
      exact ⟨_, _, by rw [HNL.out]; rfl, HFIN.out.1, y.bel, HFIN.out.2⟩
    · rw [if_neg hca] at hdr
      have HDR := Lib.hid hdr
      clear hdr
      go_enter Try.func29, Try.ntmps29
      go_wp2_with fail
      refine wp_region_grow [(7, partsM 2 [l.take at_, l.drop m]), (8, numsM w.heap.size nL L)] (by kernel_rfl) (by kernel_rfl) (by kernel_rfl) ?_
      (refine wpGrow_plain rfl ?_; go_big_quiet_step (fail); refine wpQuiet_nil ?_)
      (refine wpGrow_plain rfl ?_; go_big_quiet_step (fail); refine wpQuiet_nil ?_)
      (refine wpGrow_plain rfl ?_; go_big_quiet_step (fail); refine wpQuiet_nil ?_)
      (refine wpGrow_plain rfl ?_; go_big_quiet_step (fail); refine wpQuiet_nil ?_)
      (refine wpGrow_plain rfl ?_; go_big_quiet_step (fail); refine wpQuiet_nil ?_)
      (refine wpGrow_plain rfl ?_; go_big_quiet_step (fail); refine wpQuiet_nil ?_)
      (refine wpGrow_plain rfl ?_; go_big_quiet_step (fail); refine wpQuiet_nil ?_)
      refine wpGrow_any _ rfl rfl (fun _ hx hF => ?_) (fun v hv a' ha => ?_)
      · obtain ⟨x9, rfl⟩ := hx
        go_simp
        exact parts2_build HT.out HD.out ((HTN.out).later x9.bel) (HDR.out.later x9.bel)
      obtain ⟨g8, rfl⟩ := hv
      simp [go_sem] at ha
      subst ha
      refine wpGrow_any _ rfl rfl (fun _ hx hF => ?_) (fun v hv a' ha => ?_)
      · obtain ⟨x9, rfl⟩ := hx
        go_simp
        have q8 := parts_fact (show (partsM 2 [l.take at_, l.drop m]).S _ x9.w from hF 7 ⟨[], by kernel_rfl⟩)
        exact nums_make HNL.out x9.bel.size (by have := concat_any [l.take at_, l.drop m] _ 2 rfl x9.w q8 (by rw [HLL.out, HNL.out]; omega) (by omega); rw [HLL.out] at this; exact this)
      obtain ⟨q9, c9, rfl⟩ := hv
      simp [go_sem] at ha
      subst ha
      (refine wpGrow_plain rfl ?_; go_big_quiet_step (fail); refine wpQuiet_nil ?_)
      refine wpGrow_nil ?_
      rintro _ ⟨y, rfl⟩ hF
      have hfin := nums_fact (show (numsM w.heap.size nL L).S _ y.w from hF 8)
      have HFIN := Lib.hid hfin
      clear hF hfin
      go_wp2_with fail
      go_ret
      exact ⟨_, _, by rw [HNL.out]; rfl, HFIN.out.1, y.bel, HFIN.out.2⟩
end Go.Proofs.Ythbpoagkfpalfaa
