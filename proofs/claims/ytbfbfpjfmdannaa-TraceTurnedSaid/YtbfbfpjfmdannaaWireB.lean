/-
  WIRE: the contracts of put, Put, and of the document's Put.
-/
import Derived.Test.YtbfbfpjfmdannaaWireA
import Derived.WalkMore
import Derived.ScopeJumps
namespace Go.Proofs.Ytbfbfpjfmdannaa
open Go.ChangeShapes Go.WideShapes Go.ChangeAt Go.RowKit

/-- a number's bytes, the low ones first -/
def putF (u : Nat) : List Int := if u < 128 then [(u : Int)] else ((u % 128 + 128 : Nat) : Int) :: putF (u / 128)
termination_by u
decreasing_by omega

theorem putF_low {u : Nat} (h : u < 128) : putF u = [(u : Int)] := by rw [putF, if_pos h]
theorem putF_high {u : Nat} (h : ¬ u < 128) : putF u = ((u % 128 + 128 : Nat) : Int) :: putF (u / 128) := by rw [putF, if_neg h]
theorem putF_len (k : Nat) : ∀ u, u < 128 ^ (k + 1) → (putF u).length ≤ k + 1 ∧ 1 ≤ (putF u).length := by
  induction k with
  | zero => intro u h; rw [putF_low (by simpa using h)]; simp
  | succ k ih =>
    intro u h
    by_cases h1 : u < 128
    · rw [putF_low h1]; simp
    · rw [putF_high h1]
      have := ih (u / 128) (by rw [Nat.pow_succ] at h; omega)
      simp; omega
theorem putF_len10 {u : Nat} (h : u < 18446744073709551616) : (putF u).length ≤ 10 ∧ 1 ≤ (putF u).length := putF_len 9 u (by simp; omega)
theorem putF_in (u : Nat) : ∀ x ∈ putF u, In8 x := by
  induction u using Nat.strongRecOn with
  | _ u ih =>
    intro x hx
    by_cases h1 : u < 128
    · rw [putF_low h1] at hx; simp at hx; unfold In8; omega
    · rw [putF_high h1] at hx
      rcases List.mem_cons.1 hx with h | h
      · unfold In8; omega
      · exact ih (u / 128) (by omega) x h

theorem byte_info : (Try.prog.info? 5).map (fun i => (i.zero, i.size, i.bytes)) = some (some (.int .u8 0), 1, 1) := by kernel_rfl

/-- a slice of bytes of the call's own -/
def OwnB (w : World) (base : Nat) (v : Value) (bs : List Int) : Prop :=
  w.ownsRow base 5 1 v bs.length (bs.map (Value.int .u8)) ∧ ∀ x ∈ bs, In8 x

theorem OwnB.nil (w : World) (base : Nat) : OwnB w base (.slice none 0 0) [] := ⟨World.ownsRow_nil _ _ _ _, fun x h => absurd h (by simp)⟩
theorem OwnB.blk {w : World} {base : Nat} {v : Value} {bs : List Int} (h : OwnB w base v bs) : ∀ i, v.ownBlock = some i → base ≤ i := fun i hi => (h.1.lt i hi).1
theorem OwnB.later {w w1 : World} {base : Nat} {v : Value} {bs : List Int} (h : OwnB w base v bs) (hb : Below w.heap.size w w1) : OwnB w1 base v bs :=
  ⟨h.1.kept (gb_below hb none) (by cases h : v.ownBlock <;> simp), h.2⟩
theorem OwnB.alloc {w : World} {base : Nat} {v : Value} {bs : List Int} (h : OwnB w base v bs) (o : Obj) : OwnB (w.alloc o) base v bs := h.later ((Below.refl _ _).alloc (Nat.le_refl _) _)
theorem OwnB.opened {w : World} {base : Nat} {v : Value} {bs : List Int} (h : OwnB w base v bs) :
    ∃ p cap, v = .slice p bs.length cap ∧ Byts w p bs ∧ ((p = none ∧ bs = []) ∨ ∃ g, p = some ⟨g, 0, none⟩ ∧ base ≤ g ∧ g < w.heap.size) := by
  rcases h.1.2 with ⟨hv, h0⟩ | ⟨g, cap', cur, hv, hb, hg, hnc, _⟩
  · have : bs = [] := List.length_eq_zero_iff.1 h0
    subst this
    exact ⟨none, 0, hv, Byts.nil _ _, .inl ⟨rfl, rfl⟩⟩
  · refine ⟨_, cap', hv, ?_, .inr ⟨g, rfl, hb, (Array.getElem?_eq_some_iff.1 hg).1⟩⟩
    have h1 := h.1
    rw [hv] at h1
    exact (Byts.of_own h1 h.2).1

theorem OwnB.snoc {w : World} {base : Nat} {v : Value} {bs : List Int} {y z : Int} (h : w.ownsRow base 5 1 v (bs.length + 1) (bs.map (Value.int .u8) ++ [.int .u8 z])) (hz : z = y) (hb : ∀ x ∈ bs, In8 x) (hy : In8 y) : OwnB w base v (bs ++ [y]) := by
  subst hz
  refine ⟨by simpa using h, fun x hx => ?_⟩
  rcases List.mem_append.1 hx with h1 | h1
  · exact hb x h1
  · simp at h1; rw [h1]; exact hy
theorem bel_alloc2 {B : Nat} {w x : World} (h : Below B w x) (hB : B ≤ w.heap.size) (o : Obj) : Below B w (x.alloc o) := h.alloc (Nat.le_trans hB h.size) o

def PutPost (w : World) (base : Nat) (bs : List Int) (e : Ending) (w' : World) : Prop := ∃ v, e = .returned v ∧ OwnB w' base v bs ∧ Below base w w'

theorem cell_one_new (w : World) (t : TypeId) (c : Value) : ∀ j u, ([c] : List Value)[j]? = some u → (w.alloc (Obj.cells #[c] t)).cell? ((⟨w.heap.size, 0, none⟩ : Addr).add j) = some u := by
  intro j u hu
  rcases j with _ | j
  · simp at hu; subst hu; rw [addr_add]; exact (Blk.made w t #[c]).cell 0
  · simp at hu

/-- what stands at the head of each round of put -/
def PutInv (w : World) (base : Nat) (bs : List Int) (u0 : Nat) (v : Value) (x : Nat) (wr : World) : Prop :=
  x < 18446744073709551616 ∧ ∃ pre, putF u0 = pre ++ putF x ∧ OwnB wr base v (bs ++ pre) ∧ Below base w wr

set_option maxHeartbeats 2000000 in
theorem put_any (base : Nat) (v : Value) (bs : List Int) (n : Int) (w : World) (hown : OwnB w base v bs) (hb : base ≤ w.heap.size) (hl : bs.length ≤ 1000000) (hn : In64 n) :
    Calls Try.prog 38 #[v, .int .i64 n] w (PutPost w base (bs ++ putF (zig n))) := by
  obtain ⟨i0, hi0, hz0, hz1, hz2⟩ := info_parts byte_info
  go_enter Try.func38, Try.ntmps38
  go_wp2_with fail
  go_step3
  go_wp2_with fail
  refine (turned_any n w hn).mono ?_
  rintro e w1 ⟨rfl, rfl⟩
  go_wp2_with fail
  go_step3
  go_wp2_with fail
  have hu0 : zig n < 18446744073709551616 := zig_lt hn.1 hn.2
  go_loopw [0, 5] (fun b u wr => ∃ x : Nat, u = .int .u64 (x : Int) ∧ PutInv w1 base bs (zig n) b x wr) (fun _ u _ => (intOf u).toNat)
  case atStart => exact ⟨zig n, rfl, hu0, [], rfl, by simpa using hown, Below.refl _ _⟩
  case round =>
    obtain ⟨x, rfl, hx, pre, hp, ho, hbr⟩ := hrel
    have e1 : bits .and .u64 (x : Int) 127 % 256 = ((x % 128 : Nat) : Int) := by rw [and127_u64 x hx]; omega
    have e2 : bits .or .u8 (bits .and .u64 (x : Int) 127 % 256) 128 = ((x % 128 + 128 : Nat) : Int) := by rw [e1]; exact or128_u8 _ (by omega)
    have hlp : pre.length ≤ 10 := by have := (putF_len10 hu0).1; rw [hp] at this; simp at this; omega
    have hbs := hbr.size
    have E1 := Lib.hid e1
    have E2 := Lib.hid e2
    have HP := Lib.hid hp
    have HO := Lib.hid ho
    have HB := Lib.hid hbr
    have hll : (bs ++ pre).length ≤ 1000010 := by simp; omega
    clear e1 e2 hp ho hown hbr
    by_cases hlt : x < 128
    · have hz : (((x : Int) / 128) == 0) = true := by simp; omega
      have HLT := Lib.hid hlt
      clear hlt
      go_wp2_with (at_builtin; refine wpList_append_own _ rfl (.tmp 16) (.tmp 18) _ rfl base 5 i0 _ 1 1 Try.underlying24 hi0 hz0 hz1 hz2 rfl (by omega) _ (bs ++ pre).length ((bs ++ pre).map (Value.int .u8)) rfl (HO.out.alloc _).1 ⟨wr.heap.size, 0, none⟩ 1 1 [.int .u8 (bits .and .u64 (x : Int) 127 % 256)] rfl rfl (cell_one_new _ _ _) (by simp [Value.oneCell']) (by unfold maxLen; omega) (by omega) (by simp [go_sem]; omega) ?_; intro v6 w6 T6 G6 _)
      try rw [Exit.noGoto_ret]
      go_ret
      rw [putF_low HLT.out] at HP
      refine ⟨v6, rfl, ?_, (bel_alloc2 HB.out hb _).grown G6 (by simp [go_sem]; omega) (HO.out.blk)⟩
      rw [HP.out, ← List.append_assoc]
      exact OwnB.snoc T6 (by rw [E1.out, Nat.mod_eq_of_lt HLT.out]) HO.out.2 (by unfold In8; have := HLT.out; omega)
    · have hz : (((x : Int) / 128) == 0) = false := by simp; omega
      have HLT := Lib.hid hlt
      clear hlt
      go_wp2_with (at_builtin; refine wpList_append_own _ rfl (.tmp 20) (.tmp 23) _ rfl base 5 i0 _ 1 1 Try.underlying24 hi0 hz0 hz1 hz2 rfl (by omega) _ (bs ++ pre).length ((bs ++ pre).map (Value.int .u8)) rfl (HO.out.alloc _).1 ⟨wr.heap.size, 0, none⟩ 1 1 [.int .u8 (bits .or .u8 (bits .and .u64 (x : Int) 127 % 256) 128)] rfl rfl (cell_one_new _ _ _) (by simp [Value.oneCell']) (by unfold maxLen; omega) (by omega) (by simp [go_sem]; omega) ?_; intro v6 w6 T6 G6 _)
      go_roundw
      case rel =>
        refine ⟨x / 128, by go_num, by omega, pre ++ [((x % 128 + 128 : Nat) : Int)], ?_, ?_, (bel_alloc2 HB.out hb _).grown G6 (by simp [go_sem]; omega) (HO.out.blk)⟩
        · rw [HP.out, putF_high HLT.out]; simp
        · rw [← List.append_assoc]
          exact OwnB.snoc T6 E2.out HO.out.2 (by unfold In8; omega)
      case measure => have := HLT.out; simp [intOf]; omega

set_option maxHeartbeats 1000000 in
theorem Put_any (n : Int) (w : World) (hn : In64 n) :
    Calls Try.prog 19 #[.int .i64 n] w (PutPost w w.heap.size (putF (zig n))) := by
  go_enter Try.func19, Try.ntmps19
  go_wp2_with fail
  refine (put_any w.heap.size (.slice none 0 0) [] n w (OwnB.nil _ _) (Nat.le_refl _) (by simp) hn).mono ?_
  rintro e w1 ⟨v, rfl, ho, hb⟩
  go_wp2_with fail
  go_ret
  exact ⟨v, rfl, ho, hb⟩

set_option maxHeartbeats 2000000 in
theorem rPut_any (n : Int) (w : World) (hn : In64 n) :
    Calls Try.prog 40 #[.int .i64 n] w (PutPost w w.heap.size (putF (zig n))) := by
  obtain ⟨i0, hi0, hz0, hz1, hz2⟩ := info_parts byte_info
  go_enter Try.func40, Try.ntmps40
  go_wp2_with fail
  refine (rturned_any n w hn).mono ?_
  rintro e w1 ⟨rfl, rfl⟩
  go_wp2_with fail
  have hu0 : zig n < 18446744073709551616 := zig_lt hn.1 hn.2
  have hb : w1.heap.size ≤ w1.heap.size := Nat.le_refl _
  go_loopw [3, 4] (fun u b wr => ∃ x : Nat, u = .int .u64 (x : Int) ∧ PutInv w1 w1.heap.size [] (zig n) b x wr) (fun u _ _ => (intOf u).toNat)
  case atStart => exact ⟨zig n, rfl, hu0, [], rfl, OwnB.nil _ _, Below.refl _ _⟩
  case round =>
    obtain ⟨x, rfl, hx, pre, hp, ho, hbr⟩ := hrel
    have hlp : pre.length ≤ 10 := by have := (putF_len10 hu0).1; rw [hp] at this; simp at this; omega
    have hbs := hbr.size
    have HP := Lib.hid hp
    have HO := Lib.hid ho
    have HB := Lib.hid hbr
    have hll : pre.length ≤ 1000010 := by omega
    clear hp ho hbr hb
    by_cases hlt : x < 128
    · have HLT := Lib.hid hlt
      have hz : ¬ (128 : Int) ≤ x := by omega
      clear hlt
      go_wp2_with (at_builtin; refine wpList_append_own _ rfl (.tmp 18) (.tmp 21) _ rfl w1.heap.size 5 i0 _ 1 1 Try.underlying24 hi0 hz0 hz1 hz2 rfl (by omega) _ pre.length (pre.map (Value.int .u8)) rfl (HO.out.alloc _).1 ⟨wr.heap.size, 0, none⟩ 1 1 [.int .u8 _] rfl rfl (cell_one_new _ _ _) (by simp [Value.oneCell']) (by unfold maxLen; omega) (by omega) (by simp [go_sem]; omega) ?_; intro v6 w6 T6 G6 _)
      go_ret
      rw [putF_low HLT.out] at HP
      refine ⟨v6, rfl, ?_, (bel_alloc2 HB.out (Nat.le_refl _) _).grown G6 (by simp [go_sem]; omega) (HO.out.blk)⟩
      rw [HP.out]
      exact OwnB.snoc T6 (by have := HLT.out; omega) HO.out.2 (by unfold In8; have := HLT.out; omega)
    · have HLT := Lib.hid hlt
      have hz : (128 : Int) ≤ x := by omega
      clear hlt
      go_wp2_with (at_builtin; refine wpList_append_own _ rfl (.tmp 9) (.tmp 14) _ rfl w1.heap.size 5 i0 _ 1 1 Try.underlying24 hi0 hz0 hz1 hz2 rfl (by omega) _ pre.length (pre.map (Value.int .u8)) rfl (HO.out.alloc _).1 ⟨wr.heap.size, 0, none⟩ 1 1 [.int .u8 _] rfl rfl (cell_one_new _ _ _) (by simp [Value.oneCell']) (by unfold maxLen; omega) (by omega) (by simp [go_sem]; omega) ?_; intro v6 w6 T6 G6 _)
      go_roundw
      case rel =>
        refine ⟨x / 128, by go_num, by omega, pre ++ [((x % 128 + 128 : Nat) : Int)], ?_, ?_, (bel_alloc2 HB.out (Nat.le_refl _) _).grown G6 (by simp [go_sem]; omega) (HO.out.blk)⟩
        · rw [HP.out, putF_high HLT.out]; simp
        · exact OwnB.snoc T6 (by omega) HO.out.2 (by unfold In8; omega)
      case measure => have := HLT.out; simp [intOf]; omega

end Go.Proofs.Ytbfbfpjfmdannaa
