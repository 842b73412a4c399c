/-
  WIRE: pure facts of numbers as bytes; appends to a slice without room.
-/
import Derived.Test.YtbfbfpjfmdannaaWireH
import Derived.Deep.AppendSrc
namespace Go.Proofs.Ytbfbfpjfmdannaa
open Go.ChangeShapes Go.WideShapes Go.ChangeAt Go.RowKit Go.Lib

theorem getG_put (u : Nat) : ∀ (i : Nat) (r : List Int), u * 128 ^ i < 18446744073709551616 → (0 < i → 1 ≤ u) → getG (putF u ++ r) i = some (u, (putF u).length) := by
  induction u using Nat.strongRecOn with
  | _ u ih =>
    intro i r h h1
    have hi : i ≤ 9 := by
      apply Classical.byContradiction; intro hc
      have hp : (128 : Nat) ^ 10 ≤ 128 ^ i := pow_shift_le (by omega)
      have := Nat.mul_le_mul (h1 (by omega)) hp
      have e : (18446744073709551616 : Nat) < 128 ^ 10 := by decide
      omega
    by_cases hu : u < 128
    · rw [putF_low hu]
      simp only [List.cons_append, List.nil_append]
      rw [getG_end (by omega) (by omega)]
      · simp
      · rintro (⟨h2, h3⟩ | ⟨h2, h3⟩)
        · have := h1 h2; omega
        · subst h2
          have hu2 : 2 ≤ u := by omega
          have := Nat.mul_le_mul_right (128 ^ 9) hu2
          have e : (2 : Nat) * 128 ^ 9 = 18446744073709551616 := by decide
          omega
    · rw [putF_high hu]
      simp only [List.cons_append]
      have hlt : u / 128 * 128 ^ (i + 1) < 18446744073709551616 := by
        have e : u / 128 * 128 ^ (i + 1) = u / 128 * 128 * 128 ^ i := by rw [Nat.pow_succ, Nat.mul_assoc, Nat.mul_comm (128 ^ i)]
        have := Nat.mul_le_mul_right (128 ^ i) (show u / 128 * 128 ≤ u by omega)
        omega
      have hi8 : i < 10 := by omega
      rw [getG_on hi8 (by omega), ih (u / 128) (by omega) (i + 1) r hlt (fun _ => by omega)]
      simp only [Option.map_some, Option.some.injEq, Prod.mk.injEq, List.length_cons, and_true]
      omega

theorem getF_put {n : Int} (hn : In64 n) (r : List Int) : getF (putF (zig n) ++ r) = (n, (putF (zig n)).length, 0) := by
  have := getG_put (zig n) 0 r (by have := zig_lt hn.1 hn.2; simpa using this) (fun h => absurd h (by omega))
  rw [getF_some this, zag_zig]

theorem putF_inj {u v : Nat} (hu : u < 18446744073709551616) (hv : v < 18446744073709551616) (h : putF u = putF v) : u = v := by
  have h1 := getG_put u 0 [] (by simpa using hu) (fun h => absurd h (by omega))
  have h2 := getG_put v 0 [] (by simpa using hv) (fun h => absurd h (by omega))
  rw [h, h2] at h1
  injection h1 with h1
  injection h1 with h1 _
  exact h1.symm

theorem putF_mono (v : Nat) : ∀ u, u ≤ v → (putF u).length ≤ (putF v).length := by
  induction v using Nat.strongRecOn with
  | _ v ih =>
    intro u h
    by_cases hu : u < 128
    · rw [putF_low hu]
      by_cases hv : v < 128
      · rw [putF_low hv]; simp
      · rw [putF_high hv]; simp
    · have hv : ¬ v < 128 := by omega
      rw [putF_high hu, putF_high hv]
      have := ih (v / 128) (by omega) (u / 128) (by omega)
      simp only [List.length_cons]; omega

/-- bytes that are got as a number are those that it is put as -/
theorem getG_take : ∀ (bs : List Int) (i u m : Nat), (∀ x ∈ bs, In8 x) → getG bs i = some (u, m) → bs.take m = putF u ∧ (0 < i → 1 ≤ u)
  | [], _, _, _, _, h => by simp [getG] at h
  | b :: bs, i, u, m, hr, h => by
    have hb := hr b (by simp)
    unfold In8 at hb
    simp only [getG] at h
    split at h
    · cases h
    · split at h
      · obtain ⟨r, hr', he⟩ := Option.map_eq_some_iff.1 h
        obtain ⟨r1, r2⟩ := r
        simp only [Prod.mk.injEq] at he
        obtain ⟨e1, e2⟩ := getG_take bs (i + 1) r1 r2 (fun x hx => hr x (List.mem_cons_of_mem _ hx)) hr'
        have h1 := e2 (by omega)
        obtain ⟨hu, hm⟩ := he
        rw [← hm, List.take_succ_cons, e1, ← hu]
        refine ⟨?_, fun _ => by omega⟩
        rw [putF_high (u := (b % 128).toNat + 128 * r1) (by omega)]
        congr 1
        · omega
        · congr 1; omega
      · split at h
        · cases h
        · rename_i h1 h2
          simp only [Option.some.injEq, Prod.mk.injEq] at h
          obtain ⟨rfl, rfl⟩ := h
          rw [putF_low (by omega)]
          refine ⟨?_, fun _ => by omega⟩
          simp; omega

/-- nothing is got of a beginning that is shorter -/
theorem getG_short : ∀ (bs : List Int) (i u m k : Nat), getG bs i = some (u, m) → k < m → getG (bs.take k) i = none
  | [], _, _, _, _, h, _ => by simp [getG] at h
  | b :: bs, i, u, m, k, h, hk => by
    simp only [getG] at h
    split at h
    · cases h
    · rename_i hi
      split at h
      · rename_i hb
        obtain ⟨r, hr', he⟩ := Option.map_eq_some_iff.1 h
        obtain ⟨r1, r2⟩ := r
        simp only [Prod.mk.injEq] at he
        cases k with
        | zero => rw [List.take_zero]; rfl
        | succ k =>
          rw [List.take_succ_cons, getG_on (by omega) hb, getG_short bs (i + 1) r1 r2 k hr' (by omega)]; rfl
      · split at h
        · cases h
        · simp only [Option.some.injEq, Prod.mk.injEq] at h
          have : k = 0 := by omega
          subst this
          rw [List.take_zero]; rfl

theorem row8 {w : World} {a : Option Addr} {len cap : Nat} {zs : List Int} (h : IsRow .u8 w a len cap zs) : ∃ bs, Byts w a bs ∧ bs.length = len ∧ len ≤ cap ∧ (a = none → cap = 0) := by
  obtain ⟨h1, h2, h3⟩ := Byts.of_row h
  refine ⟨_, h1, h2, ?_, ?_⟩
  · rcases h with ⟨_, h0, _, _⟩ | ⟨x, _, g, _⟩
    · omega
    · exact g
  · rcases h with ⟨_, _, h0, _⟩ | ⟨x, hx, _⟩
    · exact fun _ => h0
    · intro h; rw [h] at hx; cases hx
theorem row64 {w : World} {a : Option Addr} {len cap : Nat} {zs : List Int} (h : IsRow .i64 w a len cap zs) : ∃ l, Ints w a l ∧ l.length = len := by
  obtain ⟨h1, h2, h3⟩ := Ints.of_row h
  exact ⟨_, h1, h2⟩

/-- an append to a slice that has no room -/
theorem wpList_append_full {w : World} {ops : Array Oper} {rest : List Oper} {o : Oper} {a : Act} {Q : Exit → Act → World → Prop} (hgd : o.guard = none) (s x : Operand)
    (ho : o.op = .call { callee := .builtin .append, args := #[s, x], argTypes := #[24, 24] }) (b off : Nat) (xs : List Int) (hs : a.eval s = .slice (some ⟨b, off, none⟩) xs.length xs.length) (hxs : Byts w (some ⟨b, off, none⟩) xs)
    (p : Option Addr) (bs : List Int) (cap : Nat) (hx : a.eval x = .slice p bs.length cap) (hb : Byts w p bs) (hp : p = none → cap = 0) (hl : xs.length + bs.length ≤ 1000000)
    (h : ∀ q c w', Byts w' q (xs ++ bs) → (xs ++ bs).length ≤ c → (q = none → c = 0) → Below w.heap.size w w' → wpList Try.prog ops Q rest (a.put o.dst (.slice q (xs ++ bs).length c)) w') : wpList Try.prog ops Q (o :: rest) a w := by
  obtain ⟨i0, hi0, hz0, hz1, hz2⟩ := info_parts byte_info
  by_cases h0 : bs = []
  · subst h0
    have hsrc : Src Try.prog i0.size 24 (.slice p 0 cap) 0 [] w := by
      rcases p with _ | ad
      · rw [hp rfl]; exact Src.ofNil w Try.underlying24 0
      · exact Src.ofSlice w Try.underlying24 ad 0 cap [] (by simp) (by simp) (by simp)
    have hrun := run_append_room_src w 24 24 o.type 5 i0 Try.underlying24 hi0 b off xs.length xs.length (.slice p 0 cap) 0 [] hsrc (by omega) (by simp) (by simp)
    refine wpList_plain hgd fun K hK => ?_
    have hx' : a.eval x = .slice p 0 cap := hx
    unfold Oper.wp
    simp [execOp, ho, resolve, invoke, builtin, hs, hx', hrun, Result.andThen]
    refine hK _ _ ?_
    have := h (some ⟨b, off, none⟩) xs.length w (by simpa using hxs) (by simp) (by simp) (Below.refl _ _)
    simpa [World.setCells] using this
  · have hpos : 0 < bs.length := List.length_pos_iff.2 h0
    obtain ⟨b2, off2, rfl, _, _⟩ := hb.cells 0 hpos
    refine wpList_append_grows w hgd s x 24 ho 5 i0 _ 1 1 Try.underlying24 hi0 hz0 hz1 hz2 rfl (by omega) (some ⟨b, off, none⟩) xs.length xs.length (xs.map (Value.int .u8)) hs (by simp) (by simp) (fun bb hbb => by injection hbb with hbb; subst hbb; exact hxs.src) ⟨b2, off2, none⟩ bs.length cap (bs.map (Value.int .u8)) hx (by simp) hb.src (by simp [Value.oneCell']) (by omega) (by unfold maxLen; omega) (by omega) ?_
    intro v' w' T G
    have ho := OwnB.ext T rfl hxs.rng hb.rng
    obtain ⟨q, c, rfl, hq, hc1, hc2⟩ := ho.fits
    exact h q c w' hq hc1 hc2 ((Below.refl _ _).grown G (Nat.le_refl _) (by simp))

end Go.Proofs.Ytbfbfpjfmdannaa
