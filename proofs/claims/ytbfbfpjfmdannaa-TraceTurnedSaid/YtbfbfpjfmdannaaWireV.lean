/-
  WIRE: bytes of which one is another one: pure facts; the contract of WireTurned's closure.
-/
import Derived.Test.YtbfbfpjfmdannaaWireO
import Derived.Deep.RegionHeld3
namespace Go.Proofs.Ytbfbfpjfmdannaa
open Go.ChangeShapes Go.WideShapes Go.ChangeAt Go.RowKit Go.Lib

theorem OwnB.drew {w : World} {base : Nat} {v : Value} {bs : List Int} (h : OwnB w base v bs) : OwnB w.drew base v bs := ⟨h.1.drew, h.2⟩
theorem OwnB.made0 (w : World) : OwnB (w.alloc (Obj.cells #[] 5)) w.heap.size (.slice (some ⟨w.heap.size, 0, none⟩) 0 0) [] := by
  refine ⟨?_, fun x h => absurd h (by simp)⟩
  have := World.ownsRow_made (base := w.heap.size) (e := 5) (size := 1) w #[] 0 (Nat.le_refl _) (by unfold maxLen; omega) (by simp)
  simpa [go_sem] using this

/-- a row of bytes, appended to one of the call's own, as one step of a region that draws -/
theorem step_append_byts {w : World} {ops : Array Oper} {o : Oper} {a : Act} {K : Act → World → Prop} {Q : Exit → Act → World → Prop} {E : Prop} (hgd : o.guard = none) (s x : Operand)
    (ho : o.op = .call { callee := .builtin .append, args := #[s, x], argTypes := #[24, 24] }) (base : Nat) (v : Value) (cs : List Int) (hs : a.eval s = v) (hown : OwnB w base v cs)
    (p : Option Addr) (bs : List Int) (cap : Nat) (hx : a.eval x = .slice p bs.length cap) (hb : Byts w p bs) (hp : p = none → cap = 0) (hl : cs.length + bs.length ≤ 1000000) (hbase : base ≤ w.heap.size)
    (h : ∀ v' w', OwnB w' base v' (cs ++ bs) → Below base w w' → K (a.put o.dst v') w') :
    if Region.wanted o (yielded ops a.tmps) = true then Oper.wp Try.prog o a w K Q else E := by
  have hw : Region.wanted o (yielded ops a.tmps) = true := by simp [Region.wanted, hgd]
  rw [if_pos hw]
  obtain ⟨i0, hi0, hz0, hz1, hz2⟩ := info_parts byte_info
  rcases p with _ | ad
  · have h0 : bs = [] := by
      by_cases h0 : 0 < bs.length
      · obtain ⟨_, _, h1, _⟩ := hb.cells 0 h0; cases h1
      · exact List.length_eq_zero_iff.1 (by omega)
    subst h0
    rw [hp rfl] at hx
    have hx' : a.eval x = .slice none 0 0 := hx
    have hrun := run_append_owned_none (P := Try.prog) (w := w) base 24 o.type 5 i0 1 Try.underlying24 hi0 v cs.length (cs.map (Value.int .u8)) hown.1
    unfold Oper.wp
    simp [execOp, ho, resolve, invoke, builtin, hs, hx', hrun, Result.andThen]
    exact h v w (by simpa using hown) (Below.refl _ _)
  · refine wp_append_own w s x _ ho base 5 i0 _ 1 1 Try.underlying24 hi0 hz0 hz1 hz2 rfl (by omega) v cs.length (cs.map (Value.int .u8)) hs hown.1 ad bs.length cap (bs.map (Value.int .u8)) hx (by simp) hb.srcs (by simp [Value.oneCell']) (by unfold maxLen; omega) (by omega) hbase ?_
    intro v' w' T G _
    exact h v' w' (OwnB.ext T rfl hown.2 hb.rng) ((Below.refl _ _).grown G hbase hown.blk)

theorem bel_base {base : Nat} {w a b : World} (hw : w.heap.size ≤ base) (h : Below w.heap.size w a) (hb : Below base a b) : Below w.heap.size w b := h.trans (hb.mono hw)

/-- two states whose first sums differ by d, and it goes on so -/
theorem sums_first (l : List Int) : ∀ (u v : Int × Int) (d : Int), (u.1 - v.1 - d) % 65521 = 0 → ((l.foldl stepS u).1 - (l.foldl stepS v).1 - d) % 65521 = 0 := by
  induction l with
  | nil => intro u v d h; exact h
  | cons c l ih => intro u v d h; exact ih _ _ d (by unfold stepS; simp only; omega)
/-- two states of one first sum, whose second sums differ by d -/
theorem sums_second (l : List Int) : ∀ (u v : Int × Int) (d : Int), u.1 = v.1 → (u.2 - v.2 - d) % 65521 = 0 → (l.foldl stepS u).1 = (l.foldl stepS v).1 ∧ ((l.foldl stepS u).2 - (l.foldl stepS v).2 - d) % 65521 = 0 := by
  induction l with
  | nil => intro u v d h1 h; exact ⟨h1, h⟩
  | cons c l ih => intro u v d h1 h; exact ih _ _ d (by unfold stepS; simp only; rw [h1]) (by unfold stepS; simp only; rw [h1]; omega)

theorem sumF_eq {a b : List Int} : sumF a = sumF b ↔ (sumsF a).1 = (sumsF b).1 ∧ (sumsF a).2 = (sumsF b).2 := by
  have h1 := sumsF_bd a
  have h2 := sumsF_bd b
  unfold sumF; omega

theorem sum_turned (a b : List Int) (x y : Int) (hx : In8 x) (hy : In8 y) : sumF (a ++ [x] ++ b) = sumF (a ++ [y] ++ b) ↔ x = y := by
  constructor
  · intro h
    have h1 := (sumF_eq.1 h).1
    unfold sumsF at h1
    rw [List.foldl_append, List.foldl_append, List.foldl_append, List.foldl_append] at h1
    have := sums_first b ([x].foldl stepS (a.foldl stepS (1, 0))) ([y].foldl stepS (a.foldl stepS (1, 0))) (x - y) (by
      simp only [List.foldl_cons, List.foldl_nil, stepS]; omega)
    unfold In8 at hx hy
    omega
  · intro h; rw [h]
theorem sum_swapped (a b : List Int) (x y : Int) (hx : In8 x) (hy : In8 y) : sumF (a ++ [x, y] ++ b) = sumF (a ++ [y, x] ++ b) ↔ x = y := by
  constructor
  · intro h
    have h1 := (sumF_eq.1 h).2
    unfold sumsF at h1
    rw [List.foldl_append, List.foldl_append, List.foldl_append, List.foldl_append] at h1
    have := (sums_second b ([x, y].foldl stepS (a.foldl stepS (1, 0))) ([y, x].foldl stepS (a.foldl stepS (1, 0))) (x - y) (by
      simp only [List.foldl_cons, List.foldl_nil, stepS]; omega) (by
      simp only [List.foldl_cons, List.foldl_nil, stepS]; omega)).2
    unfold In8 at hx hy
    omega
  · intro h; rw [h]

theorem set_mid (h a b c : List Int) (x y : Int) : (h ++ (a ++ [x] ++ b) ++ c).set (h.length + a.length) y = h ++ (a ++ [y] ++ b) ++ c := by
  have e : ∀ z : Int, h ++ (a ++ [z] ++ b) ++ c = (h ++ a) ++ (z :: (b ++ c)) := by intro z; simp
  rw [e, e, List.set_append_right _ _ (by simp), show h.length + a.length - (h ++ a).length = 0 from by simp]; rfl
theorem seal_turned (a b : List Int) (x y : Int) : (sealF (a ++ [x] ++ b)).set ((putF (zig ((a ++ [x] ++ b).length : Nat))).length + a.length) y = putF (zig ((a ++ [y] ++ b).length : Nat)) ++ (a ++ [y] ++ b) ++ putF (zig (sumF (a ++ [x] ++ b))) := by
  unfold sealF
  rw [set_mid]
  congr 3
  simp
theorem open_other (xs : List Int) (s : Int) (hs : 0 ≤ s ∧ s < 4294967296) (hl : xs.length ≤ 1000000) : openF (putF (zig (xs.length : Nat)) ++ xs ++ putF (zig s)) = none ↔ s ≠ sumF xs := by
  have hg := getF_put (n := s) (by unfold In64; omega) []
  rw [List.append_nil] at hg
  rw [openF_some (runF_whole xs _ hl), runF_part]
  rw [show (putF (zig (xs.length : Nat))).length + xs.length = (putF (zig (xs.length : Nat)) ++ xs).length from by rw [List.length_append], List.drop_left, hg]
  by_cases h : s = sumF xs <;> simp [h]
theorem open_turned (a b : List Int) (x y : Int) (hx : In8 x) (hy : In8 y) (hl : (a ++ [y] ++ b).length ≤ 1000000) :
    openF (putF (zig ((a ++ [y] ++ b).length : Nat)) ++ (a ++ [y] ++ b) ++ putF (zig (sumF (a ++ [x] ++ b)))) = none ↔ x ≠ y := by
  rw [open_other _ _ (sumF_in _) hl, ne_eq, sum_turned a b x y hx hy]

end Go.Proofs.Ytbfbfpjfmdannaa
