/-
  WIRE: the contract of the document's GetNums.
-/
import Derived.Test.YtbfbfpjfmdannaaWireS
namespace Go.Proofs.Ytbfbfpjfmdannaa
open Go.ChangeShapes Go.WideShapes Go.ChangeAt Go.RowKit Go.Lib

theorem getF_pos {bs : List Int} (h : (getF bs).2.2 = 0) : 1 ≤ (getF bs).2.1 := by
  rcases getF_cases bs with ⟨h1, _⟩ | ⟨u, m, _, h1, h2, _⟩
  · rw [h1] at h; simp at h
  · rw [h1]; exact h2
theorem getRow_len : ∀ (n : Nat) (bs l : List Int) (u : Nat), getRow n bs = some (l, u) → l.length = n ∧ n ≤ u ∧ u ≤ bs.length
  | 0, bs, l, u, h => by
    simp only [getRow, Option.some.injEq, Prod.mk.injEq] at h
    rw [← h.1, ← h.2]; simp
  | n + 1, bs, l, u, h => by
    simp only [getRow] at h
    split at h
    · cases h
    · rename_i h0
      have h0 : (getF bs).2.2 = 0 := Classical.byContradiction h0
      obtain ⟨r, hr, he⟩ := Option.map_eq_some_iff.1 h
      obtain ⟨r1, r2⟩ := r
      simp only [Prod.mk.injEq] at he
      obtain ⟨g1, g2, g3⟩ := getRow_len n _ r1 r2 hr
      have := getF_pos h0
      have := getF_len bs
      rw [List.length_drop] at g3
      rw [← he.1, ← he.2]
      simp only [List.length_cons]; omega

theorem numsG_eq (bs : List Int) : numsG bs = if (getF bs).2.2 ≠ 0 ∨ (getF bs).1 < 0 then none else (getRow (getF bs).1.toNat (bs.drop (getF bs).2.1)).map fun r => (r.1, (getF bs).2.1 + r.2) := by
  unfold numsG
  by_cases h1 : (getF bs).2.2 ≠ 0 ∨ (getF bs).1 < 0
  · rw [if_pos h1, if_pos (by omega)]
  · rw [if_neg h1]
    by_cases h2 : (bs.length : Int) - ((getF bs).2.1 : Nat) < (getF bs).1
    · rw [if_pos (.inr (.inr h2))]
      cases hr : getRow (getF bs).1.toNat (bs.drop (getF bs).2.1) with
      | none => rfl
      | some r =>
        exfalso
        have := getRow_len _ _ r.1 r.2 hr
        rw [List.length_drop] at this
        have := getF_len bs
        omega
    · rw [if_neg (by omega)]

/-- a row of numbers of the call's own -/
def OwnI (w : World) (base : Nat) (v : Value) (l : List Int) : Prop := w.ownsRow base 3 1 v l.length (l.map (Value.int .i64)) ∧ ∀ x ∈ l, In64 x
theorem OwnI.opened {w : World} {base : Nat} {v : Value} {l : List Int} (h : OwnI w base v l) : ∃ p cap, v = .slice p l.length cap ∧ Ints w p l := by
  rcases h.1.2 with ⟨hv, h0⟩ | ⟨g, cap', cur, hv, hb, hg, hnc, _⟩
  · have : l = [] := List.length_eq_zero_iff.1 h0
    subst this
    exact ⟨none, 0, hv, Ints.nil _ _⟩
  · refine ⟨_, cap', hv, ?_⟩
    have h1 := h.1
    rw [hv] at h1
    exact (Ints.of_own h1 h.2).1
theorem OwnI.later {w w1 : World} {base : Nat} {v : Value} {l : List Int} (h : OwnI w base v l) (hb : Below w.heap.size w w1) : OwnI w1 base v l :=
  ⟨h.1.kept (gb_below hb none) (by cases h : v.ownBlock <;> simp), h.2⟩
theorem OwnI.snoc {w : World} {base : Nat} {v : Value} {l : List Int} {y : Int} (h : w.ownsRow base 3 1 v (l.length + 1) (l.map (Value.int .i64) ++ [.int .i64 y])) (hb : ∀ x ∈ l, In64 x) (hy : In64 y) : OwnI w base v (l ++ [y]) := by
  refine ⟨by simpa using h, fun x hx => ?_⟩
  rcases List.mem_append.1 hx with h1 | h1
  · exact hb x h1
  · simp at h1; rw [h1]; exact hy

/-- how rows of numbers are got, told at once -/
def NumsBoth (w : World) (bs : List Int) (e : Ending) (w' : World) : Prop :=
  ∃ (l : List Int) (at_ : Nat) (er : Int) (q : Option Addr) (cq : Nat), (numsG bs = none → l = [] ∧ at_ = 0 ∧ er = 3) ∧ (∀ x m, numsG bs = some (x, m) → l = x ∧ at_ = m ∧ er = 0) ∧ l.length ≤ 1000000 ∧ e = .returned (.tuple #[.slice q l.length cq, .int .i64 (at_ : Int), .int .i64 er]) ∧ Ints w' q l ∧ Below w.heap.size w w'

theorem NumsBoth.none {w w' : World} {bs : List Int} (h : numsG bs = none) (hb : Below w.heap.size w w') : NumsBoth w bs (.returned (.tuple #[.slice none 0 0, .int .i64 0, .int .i64 3])) w' :=
  ⟨[], 0, 3, Option.none, 0, fun _ => ⟨rfl, rfl, rfl⟩, (fun x m h' => by rw [h] at h'; cases h'), by simp, rfl, Ints.nil _ _, hb⟩

theorem NumsPost.both {w : World} {bs : List Int} {e : Ending} {w' : World} (h : NumsPost w bs e w') (hl : bs.length ≤ 1000000) : NumsBoth w bs e w' := by
  obtain ⟨hb, ⟨h1, h2⟩ | ⟨l, at_, g, h1, h2, h3, h4⟩⟩ := h
  · rw [h2]; exact NumsBoth.none h1 hb
  · refine ⟨l, at_, 0, some ⟨g, 0, Option.none⟩, l.length, (fun h => by rw [h1] at h; cases h), (fun x m h => by rw [h1] at h; injection h with h; injection h with a b; exact ⟨a, b, rfl⟩), ?_, h3, h4, hb⟩
    rw [numsG_eq] at h1
    split at h1
    · cases h1
    · obtain ⟨r, hr, he⟩ := Option.map_eq_some_iff.1 h1
      obtain ⟨r1, r2⟩ := r
      have := getRow_len _ _ r1 r2 hr
      simp only [Prod.mk.injEq] at he
      rw [List.length_drop] at this
      rw [← he.1]; omega

set_option maxHeartbeats 2000000 in
theorem rGetNums_any (p : Option Addr) (bs : List Int) (cap : Nat) (w : World) (hx : NumsIn w p bs cap) :
    Calls Try.prog 33 #[.slice p bs.length cap] w (NumsBoth w bs) := by
  obtain ⟨i0, hi0, hz0, hz1, hz2⟩ := info_parts int_info
  have hG := rGet_any p bs cap w hx.x hx.len hx.fit
  unfold GetPost at hG
  have hcap := hx.fit
  have hl := hx.len
  rcases getF_cases bs with ⟨h1, -⟩ | ⟨u, m, hgu, h1, hm1, hm2, hm3⟩
  · rw [h1] at hG
    have hr : numsG bs = none := by rw [numsG_eq, h1]; simp
    have HR := Lib.hid hr
    have HG := Lib.hid hG
    clear hG hr h1
    go_enter Try.func33, Try.ntmps33
    go_wp2_with fail
    refine HG.out.mono ?_
    rintro e w1 ⟨rfl, hb⟩
    go_wp2_with fail
    refine bodyPost_ret (v := .tuple #[.slice none 0 0, .int .i64 0, .int .i64 3]) (by simp [results, Try.results33, go_sem]) rfl ?_
    exact NumsBoth.none HR.out hb
  · rw [h1] at hG
    have hr : numsG bs = if zag u < 0 then none else (getRow (zag u).toNat (bs.drop m)).map fun r => (r.1, m + r.2) := by rw [numsG_eq, h1]; simp
    have hu := getG_bound bs 0 u m hx.x.rng hgu
    simp only [Nat.pow_zero, Nat.mul_one] at hu
    have hz := zag_in hu
    generalize zag u = n at *
    have HR := Lib.hid hr
    have HG := Lib.hid hG
    clear hG hr h1 hgu
    by_cases hn : n < 0
    · rw [if_pos hn] at HR
      go_enter Try.func33, Try.ntmps33
      go_wp2_with fail
      refine HG.out.mono ?_
      rintro e w1 ⟨rfl, hb⟩
      go_wp2_with fail
      refine bodyPost_ret (v := .tuple #[.slice none 0 0, .int .i64 0, .int .i64 3]) (by simp [results, Try.results33, go_sem]) rfl ?_
      exact NumsBoth.none HR.out hb
    · rw [if_neg hn] at HR
      obtain ⟨k, rfl⟩ := Int.eq_ofNat_of_zero_le (show 0 ≤ n by omega)
      rw [Int.toNat_natCast] at HR
      obtain ⟨b, off, rfl, -, -⟩ := hx.x.cells 0 (by omega)
      have HX := Lib.hid hx
      have key : ∀ a q cq w1, Byts w1 q (bs.drop a) → bs.length - a ≤ cq → Calls Try.prog 42 #[.slice q (bs.length - a) cq] w1 (GetPost w1 (bs.drop a)) := fun a q cq w1 h hq => by
        have hdl : (bs.drop a).length = bs.length - a := by simp
        rw [← hdl]; exact rGet_any q _ cq w1 h (by rw [hdl]; omega) (by rw [hdl]; exact hq)
      have key0 : ∀ w1, Calls Try.prog 42 #[.slice (some ⟨b, off, none⟩) 0 0] w1 (GetPost w1 (bs.drop cap)) := fun w1 => by
        rw [List.drop_eq_nil_of_le hcap]
        exact rGet_any (some ⟨b, off, none⟩) [] 0 w1 (Byts.nil _ _) (by simp) (by simp)
      have KEY := Lib.hid key
      have KEY0 := Lib.hid key0
      clear hx key key0
      go_enter Try.func33, Try.ntmps33
      go_wp2_with fail
      refine HG.out.mono ?_
      rintro e w1 ⟨rfl, b1⟩
      clear HG
      go_wp2_with fail
      go_loopw [6, 8, 9] (fun a o i wr => ∃ (j c : Nat) (pre : List Int), i = .int .i64 (j : Int) ∧ a = .int .i64 (c : Int) ∧ RowAtI bs m k j c pre ∧ m + j ≤ c ∧ OwnI wr w.heap.size o pre ∧ Below w.heap.size w wr) (fun _ _ i _ => k - (intOf i).toNat)
      case atStart => exact ⟨0, m, [], rfl, rfl, RowAtI.start hm2, by omega, ⟨World.ownsRow_nil _ _ _ _, fun x h => absurd h (by simp)⟩, b1⟩
      case round =>
        obtain ⟨j, c, pre, rfl, rfl, hR, hjc, hO, hb⟩ := hrel
        have hjk : j ≤ k := hR.2.2.2.1
        have hcl : c ≤ bs.length := hR.2.1
        have hpl : pre.length = j := hR.2.2.1
        have HO := Lib.hid hO
        have HRR := Lib.hid hR
        have HB := Lib.hid hb
        have X1 := Lib.hid (HX.out.x.later hb)
        have hsz := hb.size
        clear hR hO hb
        by_cases hlt : j < k
        · have hcase : (c = cap ∧ RowKit.Hid (Calls Try.prog 42 #[.slice (some ⟨b, off, none⟩) 0 0] wr (GetPost wr (bs.drop c)))) ∨
              (c ≠ cap ∧ RowKit.Hid (Calls Try.prog 42 #[.slice (some ⟨b, off + c, none⟩) (bs.length - c) (cap - c)] wr (GetPost wr (bs.drop c)))) := by
            by_cases h : c = cap
            · exact .inl ⟨h, Lib.hid (by rw [h]; exact KEY0.out wr)⟩
            · refine .inr ⟨h, Lib.hid (KEY.out _ _ _ _ ?_ (by omega))⟩
              have h1 := X1.out.rest c
              rw [addr_add] at h1
              exact h1
          have hstep := fun h0 : (getF (bs.drop c)).2.2 = 0 => HRR.out.step hlt HX.out.x.rng h0
          have hfail := fun h0 : (getF (bs.drop c)).2.2 ≠ 0 => HRR.out.fails hlt h0
          have hpos := fun h0 : (getF (bs.drop c)).2.2 = 0 => getF_pos h0
          have hnum : In64 (getF (bs.drop c)).1 := getF_in fun y hy => HX.out.x.rng y (List.mem_of_mem_drop hy)
          have hgl2 := getF_len (bs.drop c)
          rw [List.length_drop] at hgl2
          generalize hg : getF (bs.drop c) = g at *
          obtain ⟨n2, m2, e2⟩ := g
          simp only at hstep hfail hpos hnum hgl2
          have HGG := Lib.hid hg
          have HST := Lib.hid hstep
          have HFA := Lib.hid hfail
          have HPO := Lib.hid hpos
          have HNU := Lib.hid hnum
          clear hg hstep hfail hpos hnum
          rcases hcase with ⟨rfl, KK⟩ | ⟨hcc, KK⟩
          all_goals (
            by_cases h0 : e2 = 0
            · subst h0
              go_wp2_with fail
              refine KK.out.mono ?_
              unfold GetPost
              rw [HGG.out]
              rintro e w2 ⟨rfl, b2⟩
              have hsz2 := b2.size
              have O2 := (HO.out.later b2).later ((Below.refl _ _).alloc (Nat.le_refl _) (Obj.cells #[Value.int .i64 n2] 3))
              have HO2 := Lib.hid O2
              clear O2
              go_wp2_with (at_builtin; refine wpList_append_own _ rfl (.tmp 40) (.tmp 42) _ rfl w.heap.size 3 i0 _ 1 8 Try.underlying50 hi0 hz0 hz1 hz2 rfl (by omega) _ pre.length (pre.map (Value.int .i64)) rfl HO2.out.1 ⟨w2.heap.size, 0, none⟩ 1 1 [.int .i64 n2] rfl rfl (cell_one_new _ _ _) (by simp [Value.oneCell']) (by unfold maxLen; omega) (by omega) (by simp [go_sem]; omega) ?_; intro v6 w6 T6 G6 _)
              go_roundw
              case rel =>
                refine ⟨j + 1, _ + m2, _, by go_num, by go_num, HST.out (by simp), by have := HPO.out (by simp); omega, OwnI.snoc T6 HO.out.2 HNU.out, ?_⟩
                refine ((HB.out.trans (b2.mono hsz)).alloc (by omega) _).grown G6 (by simp [go_sem]; omega) ?_
                intro i hi
                exact (HO.out.1.lt i hi).1
              case measure => simp [intOf]; omega
            · have HF := Lib.hid (HFA.out h0)
              have h2 : (e2 == 0) = false := by simpa using h0
              have h3 : (e2 != 0) = true := by simpa using h0
              clear h0
              go_wp2_with fail
              refine KK.out.mono ?_
              unfold GetPost
              rw [HGG.out]
              rintro e w2 ⟨rfl, b2⟩
              go_wp2_with fail
              refine bodyPost_ret (v := .tuple #[.slice none 0 0, .int .i64 0, .int .i64 3]) (by simp [results, Try.results33, go_sem]) rfl ?_
              exact NumsBoth.none (by rw [HR.out, HF.out]; rfl) (HB.out.trans (b2.mono hsz)))
        · obtain rfl : j = k := by omega
          have HD := Lib.hid HRR.out.done
          obtain ⟨q, cq, hv, hq⟩ := HO.out.opened
          go_wp2_with fail
          subst hv
          refine bodyPost_ret (v := .tuple #[.slice q pre.length cq, .int .i64 (c : Int), .int .i64 0]) (by simp [results, Try.results33, go_sem]) rfl ?_
          have hnn : numsG bs = some (pre, c) := by
            rw [HR.out, HD.out, Option.map_some]
            have := HRR.out.1
            congr 2; omega
          refine ⟨pre, c, 0, q, cq, (fun h => by rw [hnn] at h; cases h), (fun x m' h => by rw [hnn] at h; injection h with h; injection h with a b; exact ⟨a, b, rfl⟩), by omega, rfl, hq, HB.out⟩

end Go.Proofs.Ytbfbfpjfmdannaa
