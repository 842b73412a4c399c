/-
  SP: of no program: what the walks of the laws say of the places.
-/
import Derived.Test.YtjpimaiogdckpaaSpV
import Derived.Test.YtjpimaiogdckpaaSpO
namespace Go.Proofs.Ytjpimaiogdckpaa
open Go.ChangeShapes Go.WideShapes Go.ChangeAt Go.RowKit

theorem Pls.got {w : World} {g : Nat} {os : List (Int × Int)} (h : Pls w (some ⟨g, 0, none⟩) os) (i : Nat) (hi : i < os.length) : g < w.heap.size ∧ w.cell? ⟨g, i * 2, none⟩ = some (.int .i64 (os.getD i (0, 0)).1) ∧ w.cell? ⟨g, i * 2 + 1, none⟩ = some (.int .i64 (os.getD i (0, 0)).2) := by
  obtain ⟨b, off, h1, h2, h3, h4⟩ := h.at_ i hi
  simp only [Option.some.injEq, Addr.mk.injEq, and_true] at h1
  obtain ⟨rfl, rfl⟩ := h1
  rw [Nat.zero_add] at h3 h4
  exact ⟨h2, h3, h4⟩
theorem run_rest {l : List SplV} {i : Nat} {s u : SpS} (h : spRun .zero l = some s) (hu : spRun .zero (l.take i) = some u) : spRun u (l.drop i) = some s := by
  have h1 : l = l.take i ++ l.drop i := (List.take_append_drop _ _).symm
  rw [h1, run_append, hu] at h
  exact h
theorem ser_places {l : List SplV} (hl : l.length ≤ 300) {s u : SpS} {i at_ : Nat} (hi : i < l.length) (h : spRun .zero l = some s) (hu : spRun .zero (l.take i) = some u) (hs : Ser u at_) :
    ∃ t, spRun .zero (l.take (i + 1)) = some t ∧ (l[i].kind = 2 → Ser t at_) ∧ (l[i].kind ≠ 2 → ∃ b : Nat, nextOf l[i] = b ∧ Ser t b ∧ b < s.n ∧ at_ < s.n ∧ ((placesOf s).getD at_ (0, 0)).1 < ((placesOf s).getD b (0, 0)).1) := by
  obtain ⟨t, ht⟩ := run_prefix h (i + 1)
  have hst : spStep u l[i] = some t := by rw [← run_take hi hu]; exact ht
  obtain ⟨uok, -, -, -, un⟩ := run_ok _ zero_ok (by show 1 + _ ≤ _; rw [List.length_take]; omega) hu
  have un3 : u.n + 3 ≤ 1000 := by rw [List.length_take] at un; dsimp only [SpS.zero] at un; omega
  obtain ⟨tok, -, -, ut, tn⟩ := step_ok uok un3 hst
  have hr := run_rest h ht
  obtain ⟨sok, gE, -, tsn, -⟩ := run_ok _ tok (by rw [List.length_drop]; rw [List.length_take] at un; dsimp only [SpS.zero] at un; omega) hr
  obtain ⟨h1, h2⟩ := ser_step uok un3 hs hst
  refine ⟨t, ht, h1, fun hk => ?_⟩
  obtain ⟨b, hb, hsb, hlt⟩ := h2 hk
  have hbt := hsb.lt
  have hat := hs.lt
  refine ⟨b, hb, hsb, by omega, by omega, ?_⟩
  rw [placesOf_at s _ (by omega), placesOf_at s _ (by omega)]
  have h3 := (gE.old at_ b (by rw [tok.le]; omega) (by rw [tok.le]; omega)).2 hlt
  have h4 := (place_lt_iff (l := s.E) at_ b (by rw [sok.le]; omega) (by rw [sok.le]; omega)).2 h3
  dsimp only
  omega
end Go.Proofs.Ytjpimaiogdckpaa
