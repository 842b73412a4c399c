/-
  WIRE: the contracts of run, GetText.
-/
import Derived.Test.YtbfbfpjfmdannaaWireD
import Derived.Laws.BytesArg
namespace Go.Proofs.Ytbfbfpjfmdannaa
open Go.ChangeShapes Go.WideShapes Go.ChangeAt Go.RowKit Go.Lib

theorem getG_len : ∀ (bs : List Int) (i u m : Nat), getG bs i = some (u, m) → 1 ≤ m ∧ m ≤ bs.length ∧ m + i ≤ 10
  | [], _, _, _, h => by simp [getG] at h
  | b :: bs, i, u, m, h => by
    simp only [getG] at h
    split at h
    · cases h
    · split at h
      · obtain ⟨r, hr, he⟩ := Option.map_eq_some_iff.1 h
        obtain ⟨r1, r2⟩ := r
        simp only [Prod.mk.injEq] at he
        have := getG_len bs (i + 1) r1 r2 hr
        simp only [List.length_cons]; omega
      · split at h
        · cases h
        · simp only [Option.some.injEq, Prod.mk.injEq] at h
          simp only [List.length_cons]; omega

theorem getF_cases (bs : List Int) : (getF bs = (0, 0, 3) ∧ getG bs 0 = none) ∨ ∃ u m : Nat, getG bs 0 = some (u, m) ∧ getF bs = (zag u, m, 0) ∧ 1 ≤ m ∧ m ≤ bs.length ∧ m ≤ 10 := by
  cases h : getG bs 0 with
  | none => exact .inl ⟨getF_none h, rfl⟩
  | some r =>
    obtain ⟨u, m⟩ := r
    have := getG_len bs 0 u m h
    exact .inr ⟨u, m, rfl, getF_some h, this.1, this.2.1, by omega⟩

/-- where what stands behind how many bytes it has begins, and how many these are -/
def runF (bs : List Int) : Option (Nat × Nat) := if (getF bs).2.2 ≠ 0 ∨ (getF bs).1 < 0 ∨ ((bs.length : Int) - ((getF bs).2.1 : Nat) < (getF bs).1) then none else some ((getF bs).2.1, (getF bs).1.toNat)

def RunPost (w : World) (bs : List Int) (e : Ending) (w' : World) : Prop :=
  Below w.heap.size w w' ∧ ((runF bs = none ∧ e = .returned (.tuple #[.slice none 0 0, .int .i64 0, .int .i64 3])) ∨
    ∃ at_ n b off cq, runF bs = some (at_, n) ∧ at_ + n ≤ bs.length ∧ e = .returned (.tuple #[.slice (some ⟨b, off, none⟩) n cq, .int .i64 ((at_ + n : Nat) : Int), .int .i64 0]) ∧ Byts w' (some ⟨b, off, none⟩) ((bs.drop at_).take n) ∧ n ≤ cq)

set_option maxHeartbeats 2000000 in
theorem run_any (p : Option Addr) (bs : List Int) (cap : Nat) (w : World) (hx : Byts w p bs) (hl : bs.length ≤ 1000000) (hcap : bs.length ≤ cap) (hp : p = none → cap = 0) :
    Calls Try.prog 34 #[.slice p bs.length cap] w (RunPost w bs) := by
  have hG := Get_any p bs cap w hx hl
  unfold GetPost at hG
  rcases getF_cases bs with ⟨h1, -⟩ | ⟨u, m, -, h1, hm1, hm2, hm3⟩
  · rw [h1] at hG
    have hr : runF bs = none := by unfold runF; rw [h1]; simp
    have HR := Lib.hid hr
    have HG := Lib.hid hG
    clear hG hr h1
    go_enter Try.func34, Try.ntmps34
    go_wp2_with fail
    refine HG.out.mono ?_
    rintro e w1 ⟨rfl, hb⟩
    go_wp2_with fail
    refine bodyPost_ret (v := .tuple #[.slice none 0 0, .int .i64 0, .int .i64 3]) (by simp [results, Try.results34, go_sem]) rfl ?_
    exact ⟨hb, .inl ⟨HR.out, rfl⟩⟩
  · rw [h1] at hG
    have hr : runF bs = if zag u < 0 ∨ ((bs.length : Int) - (m : Nat) < zag u) then none else some (m, (zag u).toNat) := by unfold runF; rw [h1]; simp
    generalize zag u = n at *
    have HR := Lib.hid hr
    have HG := Lib.hid hG
    clear hG hr h1
    by_cases hn : n < 0 ∨ ((bs.length : Int) - (m : Nat) < n)
    · rw [if_pos hn] at HR
      go_enter Try.func34, Try.ntmps34
      go_wp2_with fail
      refine HG.out.mono ?_
      rintro e w1 ⟨rfl, hb⟩
      go_wp2_with fail
      all_goals first
        | (exfalso; omega)
        | (refine bodyPost_ret (v := .tuple #[.slice none 0 0, .int .i64 0, .int .i64 3]) (by simp [results, Try.results34, go_sem]) rfl ?_
           exact ⟨hb, .inl ⟨HR.out, rfl⟩⟩)
    · rw [if_neg hn] at HR
      obtain ⟨k, rfl⟩ := Int.eq_ofNat_of_zero_le (show 0 ≤ n by omega)
      have hk : m + k ≤ bs.length := by omega
      clear hn
      obtain ⟨b, off, rfl, -, -⟩ := hx.cells 0 (by omega)
      go_enter Try.func34, Try.ntmps34
      go_wp2_with fail
      refine HG.out.mono ?_
      rintro e w1 ⟨rfl, hb⟩
      go_wp2_with fail
      · refine bodyPost_ret (v := .tuple #[.slice (some ⟨b, off, none⟩) k 0, .int .i64 ((m + k : Nat) : Int), .int .i64 0]) (by simp [results, Try.results34, go_sem]) rfl ?_
        have hk0 : k = 0 := by omega
        subst hk0
        refine ⟨hb, .inr ⟨m, 0, b, off, 0, HR.out, by omega, rfl, ?_, Nat.le_refl _⟩⟩
        rw [List.take_zero]; exact Byts.nil _ _
      · skip
        refine bodyPost_ret (v := .tuple #[.slice (some ⟨b, off + m, none⟩) k (cap - m), .int .i64 ((m + k : Nat) : Int), .int .i64 0]) (by simp [results, Try.results34, go_sem]) rfl ?_
        exact ⟨hb, .inr ⟨m, k, b, off + m, cap - m, HR.out, hk, rfl, (hx.later hb).part m k, by omega⟩⟩

theorem part_len {bs : List Int} {m k : Nat} (h : m + k ≤ bs.length) : ((bs.drop m).take k).length = k := by simp; omega

end Go.Proofs.Ytbfbfpjfmdannaa
