/-
  WIRE: the contract of GetNums, and of its closure.
-/
import Derived.Test.YtbfbfpjfmdannaaWireE
import Derived.Laws.CopyOwn
namespace Go.Proofs.Ytbfbfpjfmdannaa
open Go.ChangeShapes Go.WideShapes Go.ChangeAt Go.RowKit Go.Lib

theorem int_info : (Try.prog.info? 3).map (fun i => (i.zero, i.size, i.bytes)) = some (some (.int .i64 0), 1, 8) := by kernel_rfl

/-- numbers, one behind the other, and how many bytes they have -/
def getRow : Nat → List Int → Option (List Int × Nat)
  | 0, _ => some ([], 0)
  | m + 1, bs => if (getF bs).2.2 ≠ 0 then none else (getRow m (bs.drop (getF bs).2.1)).map fun r => ((getF bs).1 :: r.1, (getF bs).2.1 + r.2)
def numsG (bs : List Int) : Option (List Int × Nat) :=
  if (getF bs).2.2 ≠ 0 ∨ (getF bs).1 < 0 ∨ ((bs.length : Int) - ((getF bs).2.1 : Nat) < (getF bs).1) then none
  else (getRow (getF bs).1.toNat (bs.drop (getF bs).2.1)).map fun r => (r.1, (getF bs).2.1 + r.2)

def NextPost (w : World) (ab a : Nat) (bs : List Int) (e : Ending) (w' : World) : Prop :=
  e = .returned (.tuple #[.int .i64 (getF (bs.drop a)).1, .bool (decide ((getF (bs.drop a)).2.2 = 0))]) ∧ Blk w' ab 3 #[.int .i64 ((a + (getF (bs.drop a)).2.1 : Nat) : Int)] ∧ w.grownBy w' (some ab)

theorem Byts.rest {w : World} {ad : Addr} {bs : List Int} (h : Byts w (some ad) bs) (a : Nat) : Byts w (some (ad.add a)) (bs.drop a) := by
  by_cases h0 : 0 < bs.length
  · obtain ⟨b, off, h1, _, _⟩ := h.cells 0 h0
    injection h1 with h1
    subst h1
    have := h.part a bs.length
    rw [addr_add]
    rwa [List.take_of_length_le (by simp)] at this
  · have : bs = [] := List.length_eq_zero_iff.1 (by omega)
    subst this
    rw [List.drop_nil]; exact Byts.nil _ _

set_option maxHeartbeats 2000000 in
theorem next_any (bb ab a : Nat) (p : Option Addr) (bs : List Int) (cap : Nat) (w : World) (hx : Byts w p bs) (hl : bs.length ≤ 1000000) (hcap : bs.length ≤ cap) (hp : p = none → cap = 0) (ha : a ≤ bs.length)
    (hbb : Blk w bb 24 #[.slice p bs.length cap]) (hab : Blk w ab 3 #[.int .i64 (a : Int)]) (hne : bb ≠ ab) :
    Calls Try.prog 39 #[.pointer (some ⟨bb, 0, none⟩), .pointer (some ⟨ab, 0, none⟩)] w (NextPost w ab a bs) := by
  have c0 : w.cell? ⟨bb, 0, none⟩ = some (.slice p bs.length cap) := hbb.cell 0
  have c1 : w.cell? ⟨ab, 0, none⟩ = some (.int .i64 (a : Int)) := hab.cell 0
  have hlen : bs.length - a = (bs.drop a).length := by simp
  have key : ∀ q cq, Byts w q (bs.drop a) → Calls Try.prog 35 #[.slice q (bs.length - a) cq] w (GetPost w (bs.drop a)) := fun q cq h => by
    rw [hlen]; exact Get_any q (bs.drop a) cq w h (by rw [← hlen]; omega)
  have KEY := Lib.hid key
  have HX := Lib.hid hx
  have HAB := Lib.hid hab
  have HBB := Lib.hid hbb
  clear key hlen hx hab hbb
  have hmany : (getF (bs.drop a)).2.1 ≤ bs.length - a := by
    rcases getF_cases (bs.drop a) with ⟨h, _⟩ | ⟨u, m, _, h, _, h2, _⟩
    · rw [h]; simp
    · rw [h]; simpa using h2
  have HMANY := Lib.hid hmany
  clear hmany
  go_enter Try.func39, Try.ntmps39
  go_wp2_with fail
  all_goals (
    refine (KEY.out _ _ ?_).mono ?_
    · first
        | (rw [show bs.drop a = [] from List.drop_eq_nil_of_le (by omega)]; exact Byts.nil _ _)
        | (rcases p with _ | ad
           · have := hp rfl
             rw [show bs.drop a = [] from List.drop_eq_nil_of_le (by omega)]; exact Byts.nil _ _
           · exact HX.out.rest a)
    rintro e w1 ⟨rfl, hb⟩
    have HP : RowKit.Hid (∀ (ee : Ending) (w' : World), ee = .returned (.tuple #[.int .i64 (getF (bs.drop a)).1, .bool (decide ((getF (bs.drop a)).2.2 = 0))]) ∧ Blk w' ab 3 #[.int .i64 ((a + (getF (bs.drop a)).2.1 : Nat) : Int)] ∧ w.grownBy w' (some ab) → NextPost w ab a bs ee w') := Lib.hid fun _ _ h => h
    have hm := HMANY.out
    generalize getF (bs.drop a) = g at *
    obtain ⟨n, m, er⟩ := g
    simp only at hm
    simp only at HP
    have B1 := HAB.out.later hb
    have f1 := B1.free 0
    have k1 : w1.cell? ⟨ab, 0, none⟩ = some (.int .i64 (a : Int)) := B1.cell 0
    have BB := Lib.hid B1
    clear B1
    simp only
    go_wp2_with fail
    refine bodyPost_ret (v := .tuple #[.int .i64 n, .bool (decide (er = 0))]) (by simp [results, Try.results39, go_sem] <;> rfl) rfl ?_
    refine HP.out _ _ ⟨rfl, ?_, ?_⟩
    · have := BB.out.put 0 (.int .i64 ((a + m : Nat) : Int))
      simpa using this
    · exact gb_trans (gb_below hb _) (grownBy_setCell' _ _ _))

/-- all that a walk of GetNums is told of the bytes -/
structure NumsIn (w : World) (p : Option Addr) (bs : List Int) (cap : Nat) : Prop where
  x : Byts w p bs
  len : bs.length ≤ 1000000
  fit : bs.length ≤ cap
  nil : p = none → cap = 0

theorem getRow_step {n : Nat} {bs : List Int} (h : (getF bs).2.2 = 0) : getRow (n + 1) bs = (getRow n (bs.drop (getF bs).2.1)).map fun r => ((getF bs).1 :: r.1, (getF bs).2.1 + r.2) := by
  simp only [getRow]; rw [if_neg (by simp [h])]
theorem getRow_stop {n : Nat} {bs : List Int} (h : (getF bs).2.2 ≠ 0) : getRow (n + 1) bs = none := by
  simp only [getRow]; rw [if_pos h]

/-- the first i of n numbers from place f on are pre, and end at place a -/
def RowAtI (bs : List Int) (f n i a : Nat) (pre : List Int) : Prop :=
  f ≤ a ∧ a ≤ bs.length ∧ pre.length = i ∧ i ≤ n ∧ (∀ x ∈ pre, In64 x) ∧ getRow n (bs.drop f) = (getRow (n - i) (bs.drop a)).map fun r => (pre ++ r.1, (a - f) + r.2)

theorem RowAtI.start {bs : List Int} {f n : Nat} (h : f ≤ bs.length) : RowAtI bs f n 0 f [] :=
  ⟨Nat.le_refl _, h, rfl, Nat.zero_le _, fun x hx => absurd hx (by simp), by simp⟩

theorem zag_in64 {u : Nat} (h : u < 18446744073709551616) : In64 (zag u) := zag_in h

theorem getG_bound : ∀ (bs : List Int) (i u m : Nat), (∀ x ∈ bs, In8 x) → getG bs i = some (u, m) → u * 128 ^ i < 18446744073709551616
  | [], _, _, _, _, h => by simp [getG] at h
  | b :: bs, i, u, m, hr, h => by
    have hb := hr b (by simp)
    unfold In8 at hb
    simp only [getG] at h
    split at h
    · cases h
    · rename_i hi
      split at h
      · obtain ⟨r, hr', he⟩ := Option.map_eq_some_iff.1 h
        obtain ⟨r1, r2⟩ := r
        simp only [Prod.mk.injEq] at he
        have ih := getG_bound bs (i + 1) r1 r2 (fun x hx => hr x (List.mem_cons_of_mem _ hx)) hr'
        have hr2 := getG_len bs (i + 1) r1 r2 hr'
        rw [← he.1]
        -- (g + 128 r1) * 128^i < 2^64, for r1 * 128^(i+1) < 2^64, a multiple of 128^(i+1)
        rw [Nat.pow_succ] at ih
        have hi8 : i ≤ 8 := by omega
        have hp : (128 : Nat) ^ i ∣ 128 ^ 8 := Nat.pow_dvd_pow 128 hi8
        obtain ⟨q, hq⟩ := hp
        have hpos : 0 < (128 : Nat) ^ i := Nat.pow_pos (by decide)
        have hg : (b % 128).toNat < 128 := by omega
        generalize (128 : Nat) ^ i = P at *
        -- r1 * (P * 128) < 256 * 128^8 = 256 * P * q → r1 * 128 < 256 q → r1 < 2 q
        have e1 : (18446744073709551616 : Nat) = 256 * (128 ^ 8) := by decide
        rw [e1, hq] at ih ⊢
        have h2 : r1 * 128 < 256 * q := by
          have : P * (r1 * 128) < P * (256 * q) := by
            have a1 : r1 * (P * 128) = P * (r1 * 128) := by rw [Nat.mul_left_comm]
            have a2 : 256 * (P * q) = P * (256 * q) := by rw [Nat.mul_left_comm]
            omega
          exact Nat.lt_of_mul_lt_mul_left this
        have h3 : (b % 128).toNat + 128 * r1 < 256 * q := by omega
        have h4 := Nat.mul_lt_mul_of_pos_right h3 hpos
        have a3 : 256 * q * P = 256 * (P * q) := by rw [Nat.mul_assoc, Nat.mul_comm q P]
        omega
      · split at h
        · cases h
        · rename_i h1 h2
          simp only [Option.some.injEq, Prod.mk.injEq] at h
          rw [← h.1]
          have hi9 : i ≤ 9 := by omega
          by_cases h9 : i = 9
          · subst h9
            have : b.toNat ≤ 1 := by omega
            have := Nat.mul_le_mul_right (128 ^ 9) this
            have e : (1 : Nat) * 128 ^ 9 = 9223372036854775808 := by decide
            omega
          · have hp : (128 : Nat) ^ i ≤ 128 ^ 8 := pow_shift_le (by omega)
            have hb2 : b.toNat ≤ 127 := by omega
            have := Nat.mul_le_mul hb2 hp
            have e : (127 : Nat) * 128 ^ 8 < 18446744073709551616 := by decide
            omega

theorem getF_in {bs : List Int} (h : ∀ x ∈ bs, In8 x) : In64 (getF bs).1 := by
  rcases getF_cases bs with ⟨h1, _⟩ | ⟨u, m, h0, h1, _⟩
  · rw [h1]; unfold In64; simp
  · rw [h1]
    have := getG_bound bs 0 u m h h0
    exact zag_in (by simpa using this)

theorem getF_len (bs : List Int) : (getF bs).2.1 ≤ bs.length := by
  rcases getF_cases bs with ⟨h1, _⟩ | ⟨u, m, _, h1, _, h2, _⟩
  · rw [h1]; simp
  · rw [h1]; exact h2

theorem RowAtI.step {bs : List Int} {f n i a : Nat} {pre : List Int} (h : RowAtI bs f n i a pre) (hi : i < n) (hr : ∀ x ∈ bs, In8 x) (h0 : (getF (bs.drop a)).2.2 = 0) :
    RowAtI bs f n (i + 1) (a + (getF (bs.drop a)).2.1) (pre ++ [(getF (bs.drop a)).1]) := by
  obtain ⟨h1, h2, h3, h4, h5, h6⟩ := h
  have hl := getF_len (bs.drop a)
  rw [List.length_drop] at hl
  refine ⟨by omega, by omega, by simp [h3], hi, fun x hx => ?_, ?_⟩
  · rcases List.mem_append.1 hx with hx | hx
    · exact h5 x hx
    · simp at hx; rw [hx]; exact getF_in fun y hy => hr y (List.mem_of_mem_drop hy)
  · rw [h6, show n - i = (n - (i + 1)) + 1 from by omega, getRow_step h0, Option.map_map, List.drop_drop]
    congr 1
    funext r
    simp only [Function.comp, Prod.mk.injEq, List.append_assoc, List.cons_append, List.nil_append, true_and]
    omega
theorem RowAtI.fails {bs : List Int} {f n i a : Nat} {pre : List Int} (h : RowAtI bs f n i a pre) (hi : i < n) (h0 : (getF (bs.drop a)).2.2 ≠ 0) : getRow n (bs.drop f) = none := by
  rw [h.2.2.2.2.2, show n - i = (n - (i + 1)) + 1 from by omega, getRow_stop h0]; rfl
theorem RowAtI.done {bs : List Int} {f n a : Nat} {pre : List Int} (h : RowAtI bs f n n a pre) : getRow n (bs.drop f) = some (pre, a - f) := by
  rw [h.2.2.2.2.2, Nat.sub_self]; simp [getRow]

end Go.Proofs.Ytbfbfpjfmdannaa
