/-
  WIRE: the contracts of the document's GetText.
-/
import Derived.Test.YtljblkhjpnipgaaWireQ
namespace Go.Proofs.Ytljblkhjpnipgaa
open Go.ChangeShapes Go.WideShapes Go.ChangeAt Go.RowKit Go.Lib

theorem ex_empty : (⟨#[]⟩ : ByteArray) = ByteArray.empty := rfl

set_option maxHeartbeats 400000 in
theorem rGetText_any (p : Option Addr) (bs : List Int) (cap : Nat) (w : World) (hx : Byts w p bs) (hl : bs.length ≤ 1000000) (hcap : bs.length ≤ cap) :
    Calls Try.prog 21 #[.slice p bs.length cap] w (TextPost w bs) := by
  have hG := rGet_any p bs cap w hx hl hcap
  unfold GetPost at hG
  rcases getF_cases bs with ⟨h1, -⟩ | ⟨u, m, -, h1, hm1, hm2, hm3⟩
  · rw [h1] at hG
    have hr : runF bs = none := by unfold runF; rw [h1]; simp
    have HR := Lib.hid hr
    have HG := Lib.hid hG
    clear hG hr h1
    go_enter Try.func21, Try.ntmps21
    go_wp2_with fail
    refine HG.out.mono ?_
    rintro e w1 ⟨rfl, hb⟩
    go_wp2_with fail
    refine bodyPost_ret (v := .tuple #[.string ⟨#[]⟩, .int .i64 0, .int .i64 3]) (by simp [results, Try.results21, go_sem]) rfl ?_
    exact ⟨hb, .inl ⟨HR.out, by rw [ex_empty]⟩⟩
  · rw [h1] at hG
    have hr : runF bs = if zag u < 0 ∨ ((bs.length : Int) - (m : Nat) < zag u) then none else some (m, (zag u).toNat) := by unfold runF; rw [h1]; simp
    generalize zag u = n at *
    have HR := Lib.hid hr
    have HG := Lib.hid hG
    clear hG hr h1
    by_cases hn : n < 0 ∨ ((bs.length : Int) - (m : Nat) < n)
    · rw [if_pos hn] at HR
      go_enter Try.func21, Try.ntmps21
      go_wp2_with fail
      refine HG.out.mono ?_
      rintro e w1 ⟨rfl, hb⟩
      go_wp2_with fail
      all_goals first
        | (exfalso; omega)
        | (refine bodyPost_ret (v := .tuple #[.string ⟨#[]⟩, .int .i64 0, .int .i64 3]) (by simp [results, Try.results21, go_sem]) rfl ?_
           exact ⟨hb, .inl ⟨HR.out, by rw [ex_empty]⟩⟩)
    · rw [if_neg hn] at HR
      obtain ⟨k, rfl⟩ := Int.eq_ofNat_of_zero_le (show 0 ≤ n by omega)
      have hk : m + k ≤ bs.length := by omega
      clear hn
      obtain ⟨b, off, rfl, -, -⟩ := hx.cells 0 (by omega)
      have HX := Lib.hid hx
      clear hx
      obtain ⟨ss, hss⟩ : ∃ ss, strOfNums ((bs.drop m).take k) = ss := ⟨_, rfl⟩
      have HSS := Lib.hid hss
      have hpl := part_len hk
      by_cases hcm : cap = m
      · have hk0 : k = 0 := by omega
        subst hk0 hcm
        have hc : ∀ w1, (convert 24 9 (.slice (some ⟨b, off, none⟩) 0 0)).run Try.prog w1 = .ok (.string ss) w1 := fun w1 => by
          have := conv_byts (w := w1) (b := b) (off := off) (cap := 0) (xs := []) (Byts.nil _ _)
          rw [List.length_nil] at this
          rw [← hss, List.take_zero]
          exact this
        clear hss hpl
        go_enter Try.func21, Try.ntmps21
        go_wp2_with fail
        refine HG.out.mono ?_
        rintro e w1 ⟨rfl, hb⟩
        replace hc := hc w1
        go_wp2_with fail
        refine bodyPost_ret (v := .tuple #[.string ss, .int .i64 ((cap + 0 : Nat) : Int), .int .i64 0]) (by simp [results, Try.results21, go_sem]) rfl ?_
        exact ⟨hb, .inr ⟨_, 0, HR.out, by omega, by rw [HSS.out]⟩⟩
      · have hc : ∀ w1, Below w.heap.size w w1 → (convert 24 9 (.slice (some ⟨b, off + m, none⟩) k (cap - m))).run Try.prog w1 = .ok (.string ss) w1 := fun w1 hb => by
          have := conv_byts (cap := cap - m) ((HX.out.later hb).part m k)
          rw [hpl, hss] at this
          exact this
        clear hss hpl
        go_enter Try.func21, Try.ntmps21
        go_wp2_with fail
        refine HG.out.mono ?_
        rintro e w1 ⟨rfl, hb⟩
        replace hc := hc w1 hb
        go_wp2_with fail
        refine bodyPost_ret (v := .tuple #[.string ss, .int .i64 ((m + k : Nat) : Int), .int .i64 0]) (by simp [results, Try.results21, go_sem]) rfl ?_
        exact ⟨hb, .inr ⟨m, k, HR.out, by omega, by rw [HSS.out]⟩⟩

end Go.Proofs.Ytljblkhjpnipgaa
