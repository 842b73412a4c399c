/-
  An order that came in, opened.
-/
import Derived.Test.YtpikiehipeecoaaRows
import Derived.Test.YtpikiehipeecoaaRow
import Derived.ProofKit
import Derived.OpenShut
import Derived.Lib.SmallJoins
namespace Go.Proofs.Ytpikiehipeecoaa
open Go.ChangeShapes Go.WideShapes Go.ChangeAt Go.RowKit

variable {H : Type} {enc : TypeId × Value → H} {w : World} {base : Nat} {held : Bool}

theorem row_of_trod {fuel : Nat} {cs : List Value} {x : DataW H × List MemPlace} (hf : DataW.trod enc Try.prog w base (fun _ => true) held fuel 24 cs = some x) :
    ∃ a len cap zs, cs = [.slice a len cap] ∧ IsRow .i64 w a len cap zs := by
  rcases open_ints Try.underlying24 Try.underlying3 (by kernel_rfl) hf with ⟨hcs, _⟩ | ⟨x, l, c, zs, hcs, _, hl, hm, hz, _, hcell, hwz⟩
  · exact ⟨_, _, _, [], hcs, .inl ⟨rfl, rfl, rfl, rfl⟩⟩
  · exact ⟨_, _, _, zs, hcs, .inr ⟨_, rfl, hl, hm, by simpa using hz, hcell, hwz⟩⟩

theorem order_of_trod {fuel : Nat} {c0 : Value} {x : DataW H × List MemPlace} (hf : DataW.trod enc Try.prog w base (fun _ => true) held fuel 26 [c0] = some x) :
    ∃ a len cap zs, c0 = .slice a len cap ∧ IsRow .i64 w a len cap zs := by
  obtain ⟨y0, n, _, _, h0⟩ := trod_struct1 Try.underlying26 hf
  have hC2 : Try.prog.cellsOf 24 = 1 := by kernel_rfl
  obtain ⟨a, len, cap, zs, hcs, hrow⟩ := row_of_trod (by simpa [hC2] using h0)
  simp only [List.cons.injEq, and_true] at hcs
  subst hcs
  exact ⟨a, len, cap, zs, rfl, hrow⟩

theorem open_order {r : Reach} {b0 : Nat} {v : Value} {d : DataW H} {p : List MemPlace} (hv : Value.okWide Try.prog w r b0 26 v) (h : DataW.Trod enc Try.prog w base (fun _ => true) held 26 v d p) :
    ∃ a len cap zs, v = .agg #[.slice a len cap] ∧ IsRow .i64 w a len cap zs := by
  obtain ⟨cs, rfl, hsz⟩ := okWide_struct Try.underlying26 hv
  have hC : Try.prog.cellsOf 26 = 1 := by kernel_rfl
  obtain ⟨fuel, hf⟩ := h
  obtain ⟨l⟩ := cs
  match l, hsz.trans hC with
  | [c0], _ =>
    obtain ⟨a, len, cap, zs, rfl, hrow⟩ := order_of_trod (by simpa [Value.cells] using hf)
    exact ⟨a, len, cap, zs, rfl, hrow⟩
end Go.Proofs.Ytpikiehipeecoaa
