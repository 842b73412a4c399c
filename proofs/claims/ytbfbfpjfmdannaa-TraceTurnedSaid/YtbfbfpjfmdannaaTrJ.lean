/-
  TRACE: what the walks of the laws share.
-/
import Derived.Test.YtbfbfpjfmdannaaTrI
namespace Go.Proofs.Ytbfbfpjfmdannaa
open Go.ChangeShapes Go.WideShapes Go.ChangeAt Go.RowKit

theorem bytes_at (p : Option Addr) (l : List EvV) (n cap B : Nat) (hn : l.length = n) (hm : n ≤ 100) (hB : (trBytes l).length = B) (w : World) (E : EvsR w p l) :
    Calls Try.prog 9 #[.slice p n cap] w (SlicePost w (trBytes l) B) := by
  subst hB; exact bytes_any p l n cap hn hm w E
theorem rbytes_at (p : Option Addr) (l : List EvV) (n cap B : Nat) (hn : l.length = n) (hm : n ≤ 100) (hB : (trBytes l).length = B) (w : World) (E : EvsR w p l) :
    Calls Try.prog 12 #[.slice p n cap] w (SlicePost w (trBytes l) B) := by
  subst hB; exact rbytes_any p l n cap hn hm w E
theorem parse_at (p : Option Addr) (bs : List Int) (n cap : Nat) (hn : bs.length = n) (hl : n ≤ 100000) (hcap : n ≤ cap) (hp : p = none → cap = 0) (w : World) (hx : Byts w p bs) :
    Calls Try.prog 10 #[.slice p n cap] w (ParsePost w bs) := by
  subst hn; exact parse_any p bs cap w hx hl hcap hp
theorem rparse_at (p : Option Addr) (bs : List Int) (n cap : Nat) (hn : bs.length = n) (hl : n ≤ 100000) (hcap : n ≤ cap) (hp : p = none → cap = 0) (w : World) (hx : Byts w p bs) :
    Calls Try.prog 17 #[.slice p n cap] w (ParsePost w bs) := by
  subst hn; exact rparse_any p bs cap w hx hl hcap hp
theorem bsame_at (xs ys : List Int) (n m : Nat) (hn : xs.length = n) (hm : ys.length = m) (ln : n ≤ 1000000) (lm : m ≤ 1000000) (R : Bool) (hR : decide (xs = ys) = R) (p q : Option Addr) (c d : Nat) (w : World) (hx : Byts w p xs) (hy : Byts w q ys) :
    Calls Try.prog 11 #[.slice p n c, .slice q m d] w fun e w' => e = .returned (.bool R) ∧ Below w.heap.size w w' := by
  subst hn hm hR; exact rSame_any p q xs ys c d w hx hy ln lm
theorem pks_len {l : List EvV} {n : Nat} (h : l.length = n) : (pks l).length = n := by unfold pks; rw [List.length_map, h]
theorem EvsR.take {w : World} {p : Option Addr} {l : List EvV} (h : EvsR w p l) (k : Nat) : EvsR w p (l.take k) := by
  refine ⟨⟨fun i hi => ?_⟩, fun e he => h.rng e (List.mem_of_mem_take he)⟩
  rw [List.length_take] at hi
  obtain ⟨b, off, h1, h2, h3⟩ := h.rows.at_ i (by omega)
  refine ⟨b, off, h1, h2, ?_⟩
  rw [List.getElem_take]; exact h3
theorem bytes_eq {l m : List EvV} (hl : ∀ e ∈ l, e.In) (hm : ∀ e ∈ m, e.In) (h1 : l.length ≤ 10000) (h2 : m.length ≤ 10000) : decide (trBytes l = trBytes m) = decide (l = m) := by
  rw [decide_eq_decide]
  exact ⟨fun h => trBytes_inj (evNums_in hl) (evNums_in hm) h1 h2 h, fun h => by rw [h]⟩
theorem trBytes_ge (l : List EvV) : (numsF (evNums l)).length ≤ (trBytes l).length ∧ 8 * l.length ≤ (numsF (evNums l)).length := by
  have h1 := evNums_len l
  have h2 := rowF_ge (evNums l)
  unfold trBytes sealF numsF
  simp only [List.length_append]
  omega
end Go.Proofs.Ytbfbfpjfmdannaa
