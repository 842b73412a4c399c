/-
  WIRE: the contract of GetNums.
-/
import Derived.Test.YtbfbfpjfmdannaaWireF
namespace Go.Proofs.Ytbfbfpjfmdannaa
open Go.ChangeShapes Go.WideShapes Go.ChangeAt Go.RowKit Go.Lib

theorem row_of_own {w : World} {base g n : Nat} {e : TypeId} {L : List Value} (h : w.ownsRow base e 1 (.slice (some ⟨g, 0, none⟩) n n) n L) :
    ∃ arr : List Value, w.heap[g]? = some (.cells arr.toArray e (0, 0)) ∧ arr.length = n ∧ L = arr := by
  rcases h.2 with ⟨h0, _⟩ | ⟨g', cp, cur, hv, _, hg, _, _, hsz, ht⟩
  · simp at h0
  · simp only [Value.slice.injEq, Option.some.injEq, Addr.mk.injEq, and_true, true_and] at hv
    obtain ⟨rfl, rfl⟩ := hv
    refine ⟨cur.toList, by simpa using hg, by rw [Array.length_toList, hsz, Nat.mul_one], ?_⟩
    rw [← ht]
    exact List.take_of_length_le (by rw [Array.length_toList, hsz]; omega)

/-- numbers, and zeros behind them -/
def fillArr (pre : List Int) (n : Nat) : Array Value := (pre.map (Value.int .i64) ++ List.replicate n (Value.int .i64 0)).toArray
theorem fillArr_size (pre : List Int) (n : Nat) : (fillArr pre n).size = pre.length + n := by unfold fillArr; simp
theorem fillArr_put {pre : List Int} {i n : Nat} {x : Int} (h : pre.length = i) (hn : i < n) : (fillArr pre (n - i)).setIfInBounds i (.int .i64 x) = fillArr (pre ++ [x]) (n - (i + 1)) := by
  unfold fillArr
  rw [show n - i = (n - (i + 1)) + 1 from by omega, List.replicate_succ]
  simp only [List.setIfInBounds_toArray, List.map_append, List.map_cons, List.map_nil, List.append_assoc, List.cons_append, List.nil_append]
  congr 1
  rw [List.set_append_right _ _ (by simp [h])]
  simp [h]

/-- what lies in memory all the way: the bytes' box, the place's box -/
structure NSt (w : World) (p : Option Addr) (bs : List Int) (cap a : Nat) (wr : World) : Prop where
  bb : Blk wr w.heap.size 24 #[.slice p bs.length cap]
  ab : Blk wr (w.heap.size + 1) 3 #[.int .i64 (a : Int)]
  bel : Below w.heap.size w wr

theorem NSt.next {w : World} {p : Option Addr} {bs : List Int} {cap a b : Nat} {wr w1 : World} (h : NSt w p bs cap a wr) (hb : Blk w1 (w.heap.size + 1) 3 #[.int .i64 (b : Int)]) (hg : wr.grownBy w1 (some (w.heap.size + 1))) : NSt w p bs cap b w1 :=
  ⟨h.bb.beside hg (by simp), hb, h.bel.grown hg h.bel.size (by intro i hi; injection hi with hi; omega)⟩
theorem NSt.later {w : World} {p : Option Addr} {bs : List Int} {cap a : Nat} {wr w1 : World} (h : NSt w p bs cap a wr) (hb : Below wr.heap.size wr w1) : NSt w p bs cap a w1 :=
  ⟨h.bb.later hb, h.ab.later hb, h.bel.trans (hb.mono h.bel.size)⟩

def NumsPost (w : World) (bs : List Int) (e : Ending) (w' : World) : Prop :=
  Below w.heap.size w w' ∧ ((numsG bs = none ∧ e = .returned (.tuple #[.slice none 0 0, .int .i64 0, .int .i64 3])) ∨
    ∃ l at_ g, numsG bs = some (l, at_) ∧ at_ ≤ bs.length ∧ e = .returned (.tuple #[.slice (some ⟨g, 0, none⟩) l.length l.length, .int .i64 (at_ : Int), .int .i64 0]) ∧ Ints w' (some ⟨g, 0, none⟩) l)

set_option maxHeartbeats 4000000 in
theorem GetNums_any (p : Option Addr) (bs : List Int) (cap : Nat) (w : World) (hx : NumsIn w p bs cap) :
    Calls Try.prog 21 #[.slice p bs.length cap] w (NumsPost w bs) := by
  obtain ⟨i0, hi0, hz0, hz1, hz2⟩ := info_parts int_info
  have HX := Lib.hid hx
  have hl := hx.len
  have hN : ∀ a wr, NSt w p bs cap a wr → a ≤ bs.length → Calls Try.prog 39 #[.pointer (some ⟨w.heap.size, 0, none⟩), .pointer (some ⟨w.heap.size + 1, 0, none⟩)] wr (NextPost wr (w.heap.size + 1) a bs) := fun a wr h ha =>
    next_any w.heap.size (w.heap.size + 1) a p bs cap wr (hx.x.later h.bel) hx.len hx.fit hx.nil ha h.bb h.ab (by omega)
  have HN := Lib.hid hN
  clear hN hx
  obtain ⟨W, hW⟩ : ∃ W, W = (w.alloc (Obj.cells #[Value.slice p bs.length cap] 24)).alloc (Obj.cells #[Value.int .i64 0] 3) := ⟨_, rfl⟩
  have S0 : NSt w p bs cap 0 W := by
    rw [hW]
    refine ⟨(Blk.made _ _ _).alloc _, ?_, bel_alloc (bel_alloc (Below.refl _ _) _) _⟩
    have := Blk.made (w.alloc (Obj.cells #[Value.slice p bs.length cap] 24)) 3 #[Value.int .i64 0]
    simpa [go_sem] using this
  have HW := Lib.hid hW
  clear hW
  go_enter Try.func21, Try.ntmps21
  go_wp2_with fail
  rw [← HW.out]
  refine (HN.out 0 W S0 (Nat.zero_le _)).mono ?_
  rintro e w1 ⟨rfl, hb1, hg1⟩
  rw [List.drop_zero] at hb1 ⊢
  rw [Nat.zero_add] at hb1
  have S1 := S0.next hb1 hg1
  clear hb1 hg1 S0
  have hG : RowKit.Hid (numsG bs = if (getF bs).2.2 ≠ 0 ∨ (getF bs).1 < 0 ∨ ((bs.length : Int) - ((getF bs).2.1 : Nat) < (getF bs).1) then none else (getRow (getF bs).1.toNat (bs.drop (getF bs).2.1)).map fun r => (r.1, (getF bs).2.1 + r.2)) := Lib.hid rfl
  have hml := getF_len bs
  generalize getF bs = q at *
  obtain ⟨n, m, er⟩ := q
  simp only at hG S1 hml ⊢
  by_cases hbad : er ≠ 0 ∨ n < 0 ∨ ((bs.length : Int) - (m : Nat) < n)
  · have HG : RowKit.Hid (numsG bs = none) := Lib.hid (by rw [hG.out, if_pos hbad])
    clear hG
    have k0 : w1.cell? ⟨w.heap.size, 0, none⟩ = some (.slice p bs.length cap) := S1.bb.cell 0
    have k1 : w1.cell? ⟨w.heap.size + 1, 0, none⟩ = some (.int .i64 (m : Int)) := S1.ab.cell 0
    have HS := Lib.hid S1
    have HBAD := Lib.hid hbad
    clear S1 hbad
    go_wp2_with fail
    all_goals first
      | (refine bodyPost_ret (v := .tuple #[.slice none 0 0, .int .i64 0, .int .i64 3]) (by simp [results, Try.results21, go_sem]) rfl ?_
         exact ⟨HS.out.bel, .inl ⟨HG.out, rfl⟩⟩)
      | (exfalso; have := HBAD.out; simp_all; omega)
  · have her : er = 0 := Classical.byContradiction fun h => hbad (.inl h)
    subst her
    obtain ⟨k, rfl⟩ := Int.eq_ofNat_of_zero_le (show 0 ≤ n by omega)
    have hkl : m + k ≤ bs.length := by omega
    have HG : RowKit.Hid (numsG bs = (getRow k (bs.drop m)).map fun r => (r.1, m + r.2)) := Lib.hid (by rw [hG.out, if_neg hbad]; rfl)
    clear hG hbad
    have k0 : w1.cell? ⟨w.heap.size, 0, none⟩ = some (.slice p bs.length cap) := S1.bb.cell 0
    have k1 : w1.cell? ⟨w.heap.size + 1, 0, none⟩ = some (.int .i64 (m : Int)) := S1.ab.cell 0
    have HS1 := Lib.hid S1
    clear S1
    go_wp2_with fail
    clear k0 k1
    go_loopw [36] (fun i wr => ∃ j a pre, i = .int .i64 ((j : Nat) : Int) ∧ RowAtI bs m k j a pre ∧ NSt w p bs cap a wr) (fun i _ => k - (intOf i).toNat)
    case atStart => exact ⟨0, m, [], rfl, RowAtI.start hml, HS1.out⟩
    case round =>
      obtain ⟨j, a, pre, rfl, hR, hS⟩ := hrel
      have hjk : j ≤ k := hR.2.2.2.1
      have hale : a ≤ bs.length := hR.2.1
      have HR := Lib.hid hR
      have HS := Lib.hid hS
      clear hR hS
      by_cases hlt : j < k
      · go_wp2_with fail
        refine (HN.out a wr HS.out hale).mono ?_
        rintro e w2 ⟨rfl, hb2, hg2⟩
        have S2 := HS.out.next hb2 hg2
        have HS2 := Lib.hid S2
        clear hb2 hg2 S2
        by_cases h0 : (getF (bs.drop a)).2.2 = 0
        · have HR2 := Lib.hid (HR.out.step hlt HX.out.x.rng h0)
          rw [show decide ((getF (bs.drop a)).2.2 = 0) = true from by simpa using h0]
          clear h0
          generalize getF (bs.drop a) = g at *
          obtain ⟨n2, m2, e2⟩ := g
          go_wp2_with fail
          go_roundw
          case rel => exact ⟨j + 1, _, _, by go_num, HR2.out, HS2.out⟩
          case measure => simp [intOf]; omega
        · have HF := Lib.hid (HR.out.fails hlt h0)
          rw [show decide ((getF (bs.drop a)).2.2 = 0) = false from by simpa using h0]
          clear h0
          generalize getF (bs.drop a) = g at *
          obtain ⟨n2, m2, e2⟩ := g
          go_wp2_with fail
          refine bodyPost_ret (v := .tuple #[.slice none 0 0, .int .i64 0, .int .i64 3]) (by simp [results, Try.results21, go_sem]) rfl ?_
          exact ⟨HS2.out.bel, .inl ⟨by rw [HG.out, HF.out]; rfl, rfl⟩⟩
      · obtain rfl : j = k := by omega
        have HD := Lib.hid HR.out.done
        have f1 : wr.frozen? ⟨w.heap.size + 1, 0, none⟩ = false := HS.out.ab.free 0
        have k1 : wr.cell? ⟨w.heap.size + 1, 0, none⟩ = some (.int .i64 (a : Int)) := HS.out.ab.cell 0
        obtain ⟨W4, hW4⟩ : ∃ W4, W4 = wr.setCell ⟨w.heap.size + 1, 0, none⟩ (.int .i64 (m : Int)) := ⟨_, rfl⟩
        have S4 : NSt w p bs cap m W4 := by
          rw [hW4]
          exact HS.out.next (by have := HS.out.ab.put 0 (.int .i64 (m : Int)); simpa using this) (grownBy_setCell' _ _ _)
        have HW4 := Lib.hid hW4
        clear hW4
        go_wp2_with (rw [← HW4.out]; refine wpList_make_full W4 rfl (.tmp 47) (.tmp 47) _ rfl W4.heap.size 3 i0 _ 1 Try.underlying50 hi0 hz0 hz1 _ _ _ _ j rfl rfl rfl rfl (by rw [hz2]; omega) (by unfold maxLen; omega) (Nat.le_refl _) ?_; intro w5 hown5 hg5; have S5 := (S4.later ((Below.refl _ _).grown hg5 (Nat.le_refl _) (by simp))); rw [show (Value.int IntKind.i64 0).cells = #[.int .i64 0] from rfl, toList_madeCells_one, Nat.mul_one] at hown5; obtain ⟨arr, harr, hal, hae⟩ := row_of_own hown5; subst hae; have HARR := Lib.hid harr; have HS5 := Lib.hid S5; clear hown5 harr hal hg5 S5 f1 k1)
        have hB5 : Blk w5 W4.heap.size 3 (fillArr [] j) := HARR.out
        have hG2 : w.heap.size + 1 < W4.heap.size := S4.ab.lt
        have HB5 := Lib.hid hB5
        clear hB5 HARR S4
        go_loopw [51] (fun v wz => ∃ i a2 pre2, v = .int .i64 ((i : Nat) : Int) ∧ RowAtI bs m j i a2 pre2 ∧ NSt w p bs cap a2 wz ∧ Blk wz W4.heap.size 3 (fillArr pre2 (j - i))) (fun v _ => j - (intOf v).toNat)
        case atStart => exact ⟨0, m, [], rfl, RowAtI.start hml, HS5.out, HB5.out⟩
        case round =>
          obtain ⟨i, a2, pre2, rfl, hR2, hS2, hB2⟩ := hrel
          have hij : i ≤ j := hR2.2.2.2.1
          have hale2 : a2 ≤ bs.length := hR2.2.1
          have HR2 := Lib.hid hR2
          have HS2 := Lib.hid hS2
          have HB2 := Lib.hid hB2
          clear hR2 hS2 hB2
          by_cases hlt : i < j
          · go_wp2_with fail
            refine (HN.out a2 _ HS2.out hale2).mono ?_
            rintro e w6 ⟨rfl, hb6, hg6⟩
            have HS6 := Lib.hid (HS2.out.next hb6 hg6)
            have HB6 := Lib.hid (HB2.out.beside hg6 (by simp; omega))
            clear hb6 hg6
            have h0 : (getF (bs.drop a2)).2.2 = 0 := by
              apply Classical.byContradiction
              intro h
              have h1 := HR2.out.fails hlt h
              rw [HD.out] at h1; cases h1
            have HR3 := Lib.hid (HR2.out.step hlt HX.out.x.rng h0)
            clear h0
            generalize getF (bs.drop a2) = g at *
            obtain ⟨n2, m2, e2⟩ := g
            have f6 := HB6.out.free i
            have l6 := HB6.out.lt
            have x6 : Has w6 ⟨W4.heap.size, i, none⟩ := by
              unfold Has; rw [HB6.out.cell]
              have : i < (fillArr pre2 (j - i)).size := by rw [fillArr_size, HR2.out.2.2.1]; omega
              simp [this]
            obtain ⟨x7, hx7⟩ := Option.isSome_iff_exists.1 x6
            go_wp2_with fail
            go_roundw
            case rel =>
              refine ⟨i + 1, _, _, by go_num, HR3.out, ⟨HS6.out.bb.far (by simp; omega) _, HS6.out.ab.far (by simp; omega) _, HS6.out.bel.setCell (by simp; omega) _⟩, ?_⟩
              have := HB6.out.put i (.int .i64 n2)
              rw [fillArr_put HR2.out.2.2.1 hlt] at this
              exact this
            case measure => simp [intOf]; omega
          · obtain rfl : i = j := by omega
            have HD2 := Lib.hid HR2.out.done
            have k1 := HS2.out.ab.cell 0
            simp only [List.getElem?_toArray, List.getElem?_cons_zero] at k1
            go_wp2_with fail
            go_quiet (fail)
            go_wp2_with fail
            have hB7 := HB2.out
            rw [Nat.sub_self, show fillArr pre2 0 = (pre2.map (Value.int .i64)).toArray from by unfold fillArr; simp] at hB7
            refine bodyPost_ret (v := .tuple #[.slice (some ⟨W4.heap.size, 0, none⟩) i i, .int .i64 (a2 : Int), .int .i64 0]) (by simp [results, Try.results21, go_sem]) rfl ?_
            refine ⟨below_drewN HS2.out.bel _, .inr ⟨pre2, a2, W4.heap.size, ?_, hale2, by rw [HR2.out.2.2.1], Ints.of_blk (hB7.drawn _) HR2.out.2.2.2.2.1⟩⟩
            rw [HG.out, HD2.out, Option.map_some]
            simp only [Option.some.injEq, Prod.mk.injEq, true_and]
            have := HR2.out.1
            omega

end Go.Proofs.Ytbfbfpjfmdannaa
