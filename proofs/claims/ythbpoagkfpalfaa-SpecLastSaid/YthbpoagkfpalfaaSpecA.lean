/-
  SPEC: rows of numbers; kinds; Grow and Concat.
-/
import Derived.Test.YthbpoagkfpalfaaRows
import Derived.ProofKit
import Derived.Deep.QuietTactic
import Derived.BigQuiet
import Derived.LoopTactic
import Derived.Test.YthbpoagkfpalfaaSpecR
import Derived.Test.YthbpoagkfpalfaaOwn
import Derived.Test.YthbpoagkfpalfaaTail
import Derived.Test.YthbpoagkfpalfaaGet
import Derived.Lib.AppendZeros
import Derived.Laws.AppendOwnNone
import Derived.Lib.SliceRun
import Derived.Lib.Walk
namespace Go.Proofs.Ythbpoagkfpalfaa
open Go.ChangeShapes Go.WideShapes Go.ChangeAt Go.RowKit

/-- a slice that reads as these numbers -/
structure Nums (w : World) (p : Option Addr) (cap : Nat) (xs : List Int) : Prop where
  cells : Cells w p (xs.map (Value.int .i64))
  le : xs.length ≤ cap
  big : cap ≤ maxLen
  nil : p = none → cap = 0

theorem Nums.later {w w1 : World} {p : Option Addr} {cap : Nat} {xs : List Int} (h : Nums w p cap xs) (hb : Below w.heap.size w w1) : Nums w1 p cap xs := ⟨h.cells.later hb, h.le, h.big, h.nil⟩
theorem Nums.nix (w : World) : Nums w none 0 [] := ⟨⟨fun i hi => absurd hi (by simp)⟩, by simp, by unfold maxLen; omega, fun _ => rfl⟩
theorem Nums.at_ {w : World} {p : Option Addr} {cap : Nat} {xs : List Int} (h : Nums w p cap xs) (i : Nat) (hi : i < xs.length) : ∃ b off, p = some ⟨b, off, none⟩ ∧ b < w.heap.size ∧ w.cell? ⟨b, off + i, none⟩ = some (.int .i64 xs[i]) := by
  obtain ⟨b, off, h1, h2, h3⟩ := h.cells.at_ i (by simpa using hi)
  exact ⟨b, off, h1, h2, by rw [h3]; simp⟩
theorem Nums.of_blk {w : World} {g : Nat} {t : TypeId} {cs : Array Value} {xs : List Int} {cap : Nat} (h : Blk w g t cs) (hc : cs.toList.take xs.length = xs.map (Value.int .i64)) (hl : xs.length ≤ cap) (hb : cap ≤ maxLen) : Nums w (some ⟨g, 0, none⟩) cap xs := by
  refine ⟨⟨fun i hi => ⟨g, 0, rfl, h.lt, ?_⟩⟩, hl, hb, fun h => by cases h⟩
  have hi2 : i < xs.length := by simpa using hi
  rw [Nat.zero_add, h.cell, ← Array.getElem?_toList]
  have : (cs.toList.take xs.length)[i]? = (xs.map (Value.int .i64))[i]? := by rw [hc]
  rw [List.getElem?_take, if_pos hi2, List.getElem?_eq_getElem hi] at this
  exact this
theorem Nums.of_own {w : World} {base : Nat} {e : TypeId} {p : Option Addr} {n cap : Nat} {xs : List Int} (h : w.ownsRow base e 1 (.slice p n cap) n (xs.map (Value.int .i64))) : Nums w p cap xs ∧ xs.length = n := by
  have hl := h.1
  rw [List.length_map, Nat.mul_one] at hl
  refine ⟨⟨Cells.of_own h, ?_, ?_, ?_⟩, hl⟩
  all_goals
    rcases h.2 with ⟨h1, h2⟩ | ⟨g, cap', cur, h1, h2, h3, h4, h5, _⟩
    all_goals
      simp only [Value.slice.injEq] at h1
      obtain ⟨rfl, _, rfl⟩ := h1
  · omega
  · omega
  · unfold maxLen; omega
  · exact h5
  · intro _; rfl
  · intro h; cases h
/-- the cells behind p, as an append wants them -/
theorem Nums.news {w : World} {x : Addr} {cap : Nat} {xs : List Int} (h : Nums w (some x) cap xs) : ∀ j u, (xs.map (Value.int .i64))[j]? = some u → w.cell? (x.add j) = some u := by
  intro j u hu
  obtain ⟨hj, he⟩ := List.getElem?_eq_some_iff.1 hu
  obtain ⟨b, off, h1, _, h3⟩ := h.cells.at_ j hj
  injection h1 with h1
  subst h1
  rw [addr_add, h3, he]
theorem Nums.below {w : World} {p : Option Addr} {cap : Nat} {xs : List Int} (h : Nums w p cap xs) (h0 : 0 < xs.length) (b off : Nat) (hp : p = some ⟨b, off, none⟩) : b < w.heap.size := by
  obtain ⟨b', off', h1, h2, _⟩ := h.at_ 0 h0
  rw [hp] at h1
  injection h1 with h1
  injection h1 with h1
  rw [h1]; exact h2
theorem Nums.far {w : World} {p : Option Addr} {cap : Nat} {xs : List Int} (h : Nums w p cap xs) (g i : Nat) (v : Value) (hne : 0 < xs.length → ∀ b off, p = some ⟨b, off, none⟩ → b ≠ g) : Nums (w.setCell ⟨g, i, none⟩ v) p cap xs :=
  ⟨⟨fun j hj => by
    obtain ⟨b, off, h1, h2, h3⟩ := h.cells.at_ j hj
    refine ⟨b, off, h1, by simpa using h2, ?_⟩
    rw [World.cell?_of_block (w := w) (a := ⟨b, off + j, none⟩) (Below.heap_setCell w ⟨g, i, none⟩ v b (hne (by rw [List.length_map] at hj; omega) b off h1))]
    exact h3⟩, h.le, h.big, h.nil⟩
theorem Nums.drawn {w : World} {p : Option Addr} {cap : Nat} {xs : List Int} (h : Nums w p cap xs) (n : Nat) : Nums (w.drewN n) p cap xs := ⟨⟨h.cells.at_⟩, h.le, h.big, h.nil⟩
/-- a part of it -/
theorem Nums.take {w : World} {p : Option Addr} {cap : Nat} {xs : List Int} (h : Nums w p cap xs) (k : Nat) : Nums w p cap (xs.take k) :=
  ⟨⟨fun i hi => by
    rw [List.length_map, List.length_take] at hi
    obtain ⟨b, off, h1, h2, h3⟩ := h.cells.at_ i (by rw [List.length_map]; omega)
    refine ⟨b, off, h1, h2, ?_⟩
    rw [h3]; simp⟩, by have := h.le; rw [List.length_take]; omega, h.big, h.nil⟩
theorem Nums.drop {w : World} {x : Addr} {cap : Nat} {xs : List Int} (h : Nums w (some x) cap xs) (k : Nat) (hk : k ≤ xs.length) : Nums w (some (if cap = k then x else x.add k)) (cap - k) (xs.drop k) := by
  have hle := h.le
  have hbg := h.big
  refine ⟨⟨fun i hi => ?_⟩, by rw [List.length_drop]; omega, by omega, fun h => by cases h⟩
  rw [List.length_map, List.length_drop] at hi
  obtain ⟨b, off, h1, h2, h3⟩ := h.cells.at_ (k + i) (by rw [List.length_map]; omega)
  injection h1 with h1
  subst h1
  rw [if_neg (by omega)]
  refine ⟨b, off + k, by rw [addr_add], h2, ?_⟩
  rw [Nat.add_assoc, h3]; simp

/-- the kind of things that an operation is of -/
def kindOf (k : Int) : Int := if k = 1 ∨ k = 2 ∨ k = 3 then 1 else if k = 4 ∨ k = 5 then 2 else if k = 6 ∨ k = 7 then 3 else 0
set_option maxHeartbeats 1000000 in
theorem of_kind (k : Int) (w : World) : Calls Try.prog 14 #[.int .i64 k] w fun e w' => e = .returned (.int .i64 (kindOf k)) ∧ w' = w := by
  rcases (show k = 1 ∨ k = 2 ∨ k = 3 ∨ k = 4 ∨ k = 5 ∨ k = 6 ∨ k = 7 ∨ (k ≠ 1 ∧ k ≠ 2 ∧ k ≠ 3 ∧ k ≠ 4 ∧ k ≠ 5 ∧ k ≠ 6 ∧ k ≠ 7) by omega) with rfl | rfl | rfl | rfl | rfl | rfl | rfl | h
  case' inr.inr.inr.inr.inr.inr.inr =>
    have h1 : (k == 1) = false := by simp; omega
    have h2 : (k == 2) = false := by simp; omega
    have h3 : (k == 3) = false := by simp; omega
    have h4 : (k == 4) = false := by simp; omega
    have h5 : (k == 5) = false := by simp; omega
    have h6 : (k == 6) = false := by simp; omega
    have h7 : (k == 7) = false := by simp; omega
    have HK : Hid (kindOf k = 0) := Lib.hid (by unfold kindOf; rw [if_neg (by omega), if_neg (by omega), if_neg (by omega)])
    clear h
  all_goals
    go_enter Try.func14, Try.ntmps14
    go_wp2_with fail
    go_ret
    first | exact ⟨rfl, rfl⟩ | exact ⟨by rw [HK.out]; rfl, rfl⟩

theorem intInfo : (Try.prog.info? 3).map (fun i => (i.zero, i.size, i.bytes)) = some (some (.int .i64 0), 1, 8) := by kernel_rfl

theorem zeroCells_size (z : Array Value) (n : Nat) (h : z.size = 1) : (Builtin.zeroCells z n).size = n := by
  simp [Builtin.zeroCells, h]

set_option maxHeartbeats 1000000 in
theorem grow_nil (n : Nat) (hn : n ≤ 100000) (w : World) : Calls Try.prog 31 #[.slice none 0 0, .int .i64 n] w fun e w' => ∃ v, e = .returned v ∧ w'.ownsRow w.heap.size 3 1 v 0 [] ∧ Below w.heap.size w w' := by
  obtain ⟨i0, hi0, hz0, hz1, hz2⟩ := info_parts intInfo
  by_cases h0 : n = 0
  · subst h0
    go_enter Try.func31, Try.ntmps31
    go_wp2_with fail
    go_ret
    exact ⟨_, rfl, World.ownsRow_nil _ _ _ _, Below.refl _ _⟩
  · have hap := fun ty => Lib.run_append_nil_zeros (P := Try.prog) w 22 3 ty 3 i0 (.int .i64 0) .i64 .i64 Try.underlying22 Try.underlying3 hi0 hz0 n (by omega) (by rw [hz1]; omega) (by omega) (by rw [hz2]; omega)
    have hge := grownCap_ge w n 0 3
    obtain ⟨G, hG⟩ : ∃ G, G = grownCap w n 0 3 := ⟨_, rfl⟩
    have hG63 : G ≤ maxLen := by
      rw [hG]; exact grownCap_le_maxLen w n 0 3 (by unfold maxLen; omega)
    rw [← hG] at hap hge
    have HM : G ≤ 9223372036854775807 := by unfold maxLen at hG63; omega
    have HG := Lib.hid hG
    clear hG
    go_enter Try.func31, Try.ntmps31
    go_wp2_with (at_builtin; refine Lib.wpList_append_run _ rfl _ _ _ _ rfl _ _ rfl rfl _ _ (hap _) ?_)
    all_goals
      go_ret
      refine ⟨_, rfl, ⟨by simp, .inr ⟨w.heap.size, G, _, rfl, Nat.le_refl _, heap_alloc_new w.drew _, Nat.zero_le _, hG63, ?_, by simp⟩⟩, ((Below.refl _ w).drew).alloc (Nat.le_refl _) _⟩
      rw [Array.size_append, zeroCells_size _ _ rfl, zeroCells_size _ _ rfl]
      omega

/-- slices, one behind the other in a block, that read as these rows -/
def PartsAt (w : World) (g : Nat) (parts : List (List Int)) : Prop := g < w.heap.size ∧ ∀ i (h : i < parts.length), ∃ p c, w.cell? ⟨g, i, none⟩ = some (.slice p parts[i].length c) ∧ Nums w p c parts[i]
theorem PartsAt.later {w w1 : World} {g : Nat} {parts : List (List Int)} (h : PartsAt w g parts) (hb : Below w.heap.size w w1) : PartsAt w1 g parts :=
  ⟨Nat.lt_of_lt_of_le h.1 hb.size, fun i hi => by
    obtain ⟨p, c, h1, h2⟩ := h.2 i hi
    exact ⟨p, c, by rw [hb.cell (p := ⟨g, _, none⟩) h.1]; exact h1, h2.later hb⟩⟩
/-- a slice of numbers in memory of the call's own -/
def NumsPost (w : World) (xs : List Int) (e : Ending) (w' : World) : Prop := ∃ q cap, e = .returned (.slice q xs.length cap) ∧ Nums w' q cap xs ∧ Below w.heap.size w w' ∧ ∀ b off, q = some ⟨b, off, none⟩ → w.heap.size ≤ b

theorem flat_snoc (parts : List (List Int)) (k : Nat) (h : k < parts.length) : (parts.take (k + 1)).flatten = (parts.take k).flatten ++ parts[k] := by
  rw [List.take_succ_eq_append_getElem h, List.flatten_append]; simp
theorem flat_le (parts : List (List Int)) (k : Nat) : (parts.take k).flatten.length ≤ parts.flatten.length := by
  have : parts.flatten = (parts.take k).flatten ++ (parts.drop k).flatten := by rw [← List.flatten_append, List.take_append_drop]
  rw [this, List.length_append]; omega

set_option maxHeartbeats 2000000 in
theorem concat_any (parts : List (List Int)) (g m : Nat) (hm : parts.length = m) (w : World) (h : PartsAt w g parts) (hle : parts.flatten.length ≤ 100000) (hm2 : m ≤ 1000) :
    Calls Try.prog 30 #[.slice (some ⟨g, 0, none⟩) m m] w (NumsPost w parts.flatten) := by
  obtain ⟨i0, hi0, hz0, hz1, hz2⟩ := info_parts intInfo
  obtain ⟨F, hF⟩ : ∃ F, parts.flatten = F := ⟨_, rfl⟩
  have hlek := fun k => flat_le parts k
  rw [hF] at hle hlek ⊢
  have HH := Lib.hid fun wx (hb : Below w.heap.size w wx) => h.later hb
  have HM := Lib.hid hm
  have HF := Lib.hid hF
  have HL := Lib.hid hlek
  obtain ⟨nf, hnf⟩ : ∃ n, F.length = n := ⟨_, rfl⟩
  rw [hnf] at hle HL
  have HNF := Lib.hid hnf
  clear h hm hF hlek hnf
  go_enter Try.func30, Try.ntmps30
  go_wp2_with fail
  go_loop [3, 11] (fun v i => ∃ k s : Nat, i = .int .i64 k ∧ v = .int .i64 s ∧ k ≤ m ∧ s ≤ nf ∧ Hid (s = (parts.take k).flatten.length)) (fun _ i => m - (intOf i).toNat)
  case atStart => exact ⟨0, 0, rfl, rfl, by omega, by omega, Lib.hid (by simp)⟩
  case round =>
    obtain ⟨k, s, rfl, rfl, hk, hs, HS⟩ := hrel
    by_cases hlt : k < m
    · have hkl : k < parts.length := by rw [HM.out]; exact hlt
      obtain ⟨p, c, hc, hn⟩ := (HH.out w (Below.refl _ _)).2 k hkl
      have hsn := congrArg List.length (flat_snoc parts k hkl)
      rw [List.length_append] at hsn
      obtain ⟨x, hx⟩ : ∃ x, parts[k].length = x := ⟨_, rfl⟩
      rw [hx] at hc hsn
      have hle2 : s + x ≤ nf := by have h1 := HL.out (k + 1); have h2 := HS.out; omega
      have HSN := Lib.hid hsn
      have hsx : (0 : Int) ≤ (s : Int) + (x : Int) := by omega
      clear hsn hx hn
      go_wp2_with fail
      go_round
      case rel => exact ⟨k + 1, s + x, by simp, by simp, by omega, by omega, Lib.hid (by have h1 := HSN.out; have h2 := HS.out; omega)⟩
      case measure => simp [intOf]; omega
    · have hkm : k = m := by omega
      have hsn : s = nf := by
        have h1 := HS.out
        rw [List.take_of_length_le (by rw [HM.out]; omega), HF.out, HNF.out] at h1
        exact h1
      have hdk : decide ((k : Int) < m) = false := by simp; omega
      have HSN := Lib.hid hsn
      clear hsn hkm
      go_wp2_with fail
      refine (grow_nil s (by omega) w).mono ?_
      rintro e w1 ⟨v, rfl, hown, hb1⟩
      have HB1 := Lib.hid hb1
      clear hb1
      go_wp2_with fail
      go_loopw [6, 27] (fun v i wr => ∃ k : Nat, i = .int .i64 k ∧ k ≤ m ∧ ∃ W', W' = wr ∧ W'.ownsRow w.heap.size 3 1 v (parts.take k).flatten.length ((parts.take k).flatten.map (Value.int .i64)) ∧ Below w.heap.size w W') (fun _ i _ => m - (intOf i).toNat)
      case atStart => exact ⟨0, rfl, by omega, _, rfl, by simpa using hown, HB1.out⟩
      case round =>
        clear hown hlt hdk
        obtain ⟨k, rfl, hk, wr, rfl, hown, hb⟩ := hrel
        obtain ⟨qv, cv, rfl⟩ := own_slice hown
        obtain ⟨y, hy⟩ : ∃ y, (parts.take k).flatten.length = y := ⟨_, rfl⟩
        have hyl := HL.out k
        rw [hy] at hown hyl ⊢
        by_cases hlt : k < m
        · have hkl : k < parts.length := by rw [HM.out]; exact hlt
          obtain ⟨p, c, hc, hn⟩ := (HH.out wr hb).2 k hkl
          have hsn := flat_snoc parts k hkl
          obtain ⟨X, hX⟩ : ∃ X, parts[k] = X := ⟨_, rfl⟩
          rw [hX] at hc hn hsn
          obtain ⟨x, hx⟩ : ∃ x, X.length = x := ⟨_, rfl⟩
          rw [hx] at hc
          have hle2 : y + x ≤ nf := by
            have h1 := HL.out (k + 1)
            rw [hsn, List.length_append, hy, hx] at h1
            exact h1
          have HSN := Lib.hid hsn
          have HY := Lib.hid hy
          have HX := Lib.hid hx
          have HO := Lib.hid hown
          have HB := Lib.hid hb
          have HN := Lib.hid hn
          have hbase := hb.size
          have hlow : Hid (∀ i', (Value.slice qv y cv).ownBlock = some i' → w.heap.size ≤ i') := Lib.hid fun i' hi' => (HO.out.lt i' hi').1
          clear hsn hy hx hown hb hn hX
          cases p with
          | none =>
            have hc0 : c = 0 := HN.out.nil rfl
            have hx0 : x = 0 := by have := HN.out.le; rw [HX.out] at this; omega
            subst hc0
            subst hx0
            go_wp2_with (at_builtin; refine wpList_append_own_none rfl (.tmp 31) (.tmp 32) _ rfl w.heap.size 3 i0 1 Try.underlying22 hi0 _ y _ rfl HO.out rfl ?_)
            go_roundw
            case rel =>
              refine ⟨k + 1, by simp, by omega, _, rfl, ?_, HB.out⟩
              have hXn : X = [] := List.length_eq_zero_iff.1 HX.out
              rw [HSN.out, hXn, List.append_nil, HY.out]
              exact HO.out
            case measure => simp [intOf]; omega
          | some ad =>
            go_wp2_with (at_builtin; refine wpList_append_own wr rfl (.tmp 31) (.tmp 32) _ rfl w.heap.size 3 i0 _ 1 8 Try.underlying22 hi0 hz0 hz1 hz2 rfl (by omega) _ y _ rfl HO.out ad x c (X.map (Value.int .i64)) rfl (by rw [List.length_map, HX.out]; omega) HN.out.news (by intro u hu; obtain ⟨z, _, rfl⟩ := List.mem_map.1 hu; rfl) (by unfold maxLen; omega) (by omega) hbase ?_; intro v4 w4 hown4 hg4 _)
            have hB4 : Below w.heap.size w w4 := below_gb HB.out hg4 hbase hlow.out
            have hown5 : w4.ownsRow w.heap.size 3 1 v4 (parts.take (k + 1)).flatten.length ((parts.take (k + 1)).flatten.map (Value.int .i64)) := by
              rw [HSN.out, List.length_append, List.map_append, HY.out, HX.out]
              exact hown4
            have HB4 := Lib.hid hB4
            have HO5 := Lib.hid hown5
            clear hB4 hown5 hown4 hg4
            go_wp2_with fail
            go_roundw
            case rel => exact ⟨k + 1, by simp, by omega, _, rfl, HO5.out, HB4.out⟩
            case measure => simp [intOf]; omega
        · have hdk : decide ((k : Int) < m) = false := by simp; omega
          have hN := Nums.of_own hown
          rw [List.take_of_length_le (by rw [HM.out]; omega), HF.out] at hN
          have HN := Lib.hid hN
          have HB := Lib.hid hb
          have hlow : Hid (∀ b off, qv = some ⟨b, off, none⟩ → w.heap.size ≤ b) := Lib.hid fun b off hq => (hown.lt b (by rw [hq]; rfl)).1
          clear hN hown hb hy
          go_wp2_with fail
          go_ret
          exact ⟨qv, cv, by rw [HN.out.2]; rfl, HN.out.1, HB.out, hlow.out⟩
end Go.Proofs.Ythbpoagkfpalfaa
