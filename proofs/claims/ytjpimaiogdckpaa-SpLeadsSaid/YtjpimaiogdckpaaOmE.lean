/-
  OM: the label above.
-/
import Derived.Test.YtjpimaiogdckpaaOmA
import Derived.Test.YtjpimaiogdckpaaOmP
namespace Go.Proofs.Ytjpimaiogdckpaa
open Go.ChangeShapes Go.WideShapes Go.ChangeAt Go.RowKit

/-- the cells of a row, at one block -/
theorem Nums.block {w : World} {p : Option Addr} {c : Nat} {l : List Int} (h : Nums w p c l) (h0 : 0 < l.length) : ∃ b off, p = some ⟨b, off, none⟩ ∧ b < w.heap.size ∧ ∀ k, k < l.length → w.cell? ⟨b, off + k, none⟩ = some (.int .i64 (l.getD k 0)) := by
  obtain ⟨b, off, h1, h2, _⟩ := h.at_ 0 h0
  refine ⟨b, off, h1, h2, fun k hk => ?_⟩
  obtain ⟨b', off', g1, _, g3⟩ := h.at_ k hk
  rw [h1] at g1
  simp only [Option.some.injEq, Addr.mk.injEq, and_true] at g1
  obtain ⟨rfl, rfl⟩ := g1
  rw [g3, List.getD_eq_getElem?_getD, List.getElem?_eq_getElem hk]; rfl

def last? (o : Option Int) : Bool := o.isNone
def least (o : Option Int) (a : Int) : Int := o.getD (a + 2097152)

set_option maxRecDepth 100000 in
set_option maxHeartbeats 4000000 in
theorem above_any (l : List Int) (n : Nat) (hl : l.length = n) (hn : n ≤ 1000) (hr : ∀ y ∈ l, 0 ≤ y ∧ y ≤ 1099511627776) (p : Option Addr) (c x : Nat) (hx : x < n) (w : World) (h : Nums w p c l) :
    Calls Try.prog 29 #[.slice p n c, .int .i64 x] w fun e w' => e = .returned (.int .i64 (abL l (l.getD x 0))) ∧ w' = w := by
  obtain ⟨b, off, rfl, hlb, hcell⟩ := h.block (by omega)
  rw [hl] at hcell
  have c0 := hcell x hx
  obtain ⟨a, ha⟩ : ∃ a, l.getD x 0 = a := ⟨_, rfl⟩
  rw [ha] at c0 ⊢
  have har : 0 ≤ a ∧ a ≤ 1099511627776 := by rw [← ha]; exact hr _ (getD_mem (by omega))
  have e1 : IntKind.i64.wrap (a + 2097152) = a + 2097152 := by rw [IntKind.wrap_i64]; omega
  have HC := Lib.hid hcell
  have HR := Lib.hid hr
  have HL := Lib.hid hl
  have hx0 : (0 : Int) ≤ x := by omega
  have hxn : (x : Int) < n := by omega
  have HA := Lib.hid har
  clear hcell hr hl h ha har hlb
  go_enter Try.func29, Try.ntmps29
  go_wp2_with fail
  go_loop [5, 6, 16] (fun t5 t6 i => ∃ (k : Nat) (o : Option Int), i = .int .i64 k ∧ t5 = .int .i64 (least o a) ∧ t6 = .bool (last? o) ∧ k ≤ n ∧ Hid (o = abv (l.take k) a)) (fun _ _ i => n - (intOf i).toNat)
  case atStart => exact ⟨0, none, rfl, rfl, rfl, Nat.zero_le _, Lib.hid (by simp [abv])⟩
  case round =>
    obtain ⟨k, o, rfl, rfl, rfl, hk, HO⟩ := hrel
    by_cases hlt : k < n
    · have ck := HC.out k hlt
      obtain ⟨y, hy⟩ : ∃ y, l.getD k 0 = y := ⟨_, rfl⟩
      rw [hy] at ck
      have hkl : k < l.length := by rw [HL.out]; exact hlt
      have hsn := abv_snoc l a k hkl
      have hy2 : l[k] = y := by rw [← hy, List.getD_eq_getElem?_getD, List.getElem?_eq_getElem hkl]; rfl
      rw [← HO.out, hy2] at hsn
      have HS := Lib.hid hsn
      have hk0 : (0 : Int) ≤ k := by omega
      have hkn : (k : Int) < n := by omega
      clear hsn hy hy2 hkl
      by_cases h1 : a < y
      · have d1 : decide (a < y) = true := by simpa using h1
        cases o with
        | none =>
          have HX : Hid (abv (l.take (k + 1)) a = some y) := Lib.hid (by rw [HS.out]; unfold abS; rw [if_pos h1])
          have q1 : last? none = true := rfl
          clear HS HO
          go_wp2_with fail
          go_round
          case rel => exact ⟨k + 1, some y, by simp, rfl, rfl, by omega, Lib.hid HX.out.symm⟩
          case measure => simp [intOf]; omega
        | some m =>
          have q1 : last? (some m) = false := rfl
          have q2 : least (some m) a = m := rfl
          by_cases h2 : y < m
          · have HX : Hid (abv (l.take (k + 1)) a = some y) := Lib.hid (by rw [HS.out]; unfold abS; rw [if_pos h1]; simp [h2])
            have d2 : decide (y < m) = true := by simpa using h2
            clear HS HO
            go_wp2_with fail
            go_round
            case rel => exact ⟨k + 1, some y, by simp, rfl, rfl, by omega, Lib.hid HX.out.symm⟩
            case measure => simp [intOf]; omega
          · have HX : Hid (abv (l.take (k + 1)) a = some m) := Lib.hid (by rw [HS.out]; unfold abS; rw [if_pos h1]; simp [h2])
            have d2 : decide (y < m) = false := by simpa using h2
            clear HS HO
            go_wp2_with fail
            go_round
            case rel => exact ⟨k + 1, some m, by simp, by first | rfl | (simp [q2]; done) , by first | rfl | (simp [q1]; done), by omega, Lib.hid HX.out.symm⟩
            case measure => simp [intOf]; omega
      · have HX : Hid (abv (l.take (k + 1)) a = o) := Lib.hid (by rw [HS.out]; unfold abS; rw [if_neg h1])
        have d1 : decide (a < y) = false := by simpa using h1
        clear HS HO
        go_wp2_with fail
        go_round
        case rel => exact ⟨k + 1, o, by simp, rfl, rfl, by omega, Lib.hid HX.out.symm⟩
        case measure => simp [intOf]; omega
    · have hkn : k = n := by omega
      have hd : decide ((k : Int) < n) = false := by simp; omega
      have HX : Hid (least o a = abL l a) := Lib.hid (by
        have := HO.out
        rw [List.take_of_length_le (by rw [HL.out]; omega)] at this
        rw [this]; rfl)
      clear hkn HO
      go_wp2_with fail
      go_ret
      exact ⟨by rw [← HX.out]; rfl, rfl⟩
end Go.Proofs.Ytjpimaiogdckpaa
