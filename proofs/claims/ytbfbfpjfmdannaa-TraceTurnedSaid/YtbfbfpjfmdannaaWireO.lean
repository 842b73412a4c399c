/-
  WIRE: the contracts of Clone, Open.
-/
import Derived.Test.YtbfbfpjfmdannaaWireR
import Derived.Laws.Cover3
namespace Go.Proofs.Ytbfbfpjfmdannaa
open Go.ChangeShapes Go.WideShapes Go.ChangeAt Go.RowKit Go.Lib

theorem run_eql_nil (a : Option Addr) (l c : Nat) (w : World) : (binOp .eql 24 (.slice a l c) (.slice none 0 0)).run Try.prog w = .ok (.bool a.isNone) w := by
  simp [binOp, run_equal_slice_nil w 24 5 a l c Try.underlying24, Result.andThen]

set_option maxHeartbeats 1000000 in
theorem Clone_any (p : Option Addr) (bs : List Int) (cap : Nat) (w : World) (hx : Byts w p bs) (hl : bs.length ≤ 1000000) (hp : p = none → cap = 0) :
    Calls Try.prog 37 #[.slice p bs.length cap] w (SlicePost w bs bs.length) := by
  rcases p with _ | ad
  · have h0 : bs = [] := by
      by_cases h0 : 0 < bs.length
      · obtain ⟨_, _, h1, _⟩ := hx.cells 0 h0; cases h1
      · exact List.length_eq_zero_iff.1 (by omega)
    subst h0
    rw [hp rfl]
    have hnil := run_eql_nil none 0 0 w
    simp only [Option.isNone_none] at hnil
    go_enter Try.func37, Try.ntmps37
    go_wp2_with fail
    go_ret
    exact ⟨none, 0, rfl, Byts.nil _ _, Nat.le_refl _, fun _ => rfl, Below.refl _ _⟩
  · have HX := Lib.hid hx
    clear hx hp
    obtain ⟨W, hW⟩ : ∃ W, W = w.alloc (Obj.cells #[] 5) := ⟨_, rfl⟩
    have bW : Below w.heap.size w W := by rw [hW]; exact bel_alloc (Below.refl _ _) _
    have hown0 : OwnB W w.heap.size (.slice (some ⟨w.heap.size, 0, none⟩) 0 0) [] := by
      rw [hW]
      refine ⟨?_, fun x h => absurd h (by simp)⟩
      have := World.ownsRow_made (base := w.heap.size) (e := 5) (size := 1) w #[] 0 (Nat.le_refl _) (by unfold maxLen; omega) (by simp)
      simpa [go_sem] using this
    have HW := Lib.hid hW
    clear hW
    have hnil := run_eql_nil (some ad) bs.length cap w
    simp only [Option.isNone_some] at hnil
    go_enter Try.func37, Try.ntmps37
    go_wp2_with (at_builtin; rw [← HW.out]; refine wpList_append_byts rfl (.tmp 5) (.tmp 6) rfl w.heap.size _ [] rfl hown0 (some ad) bs cap rfl (HX.out.later bW) (by simp) (by simpa using hl) bW.size ?_; intro v6 w6 T6 B6 G6)
    go_ret
    rw [List.nil_append] at T6
    obtain ⟨q, c, rfl, hq, hc1, hc2⟩ := T6.fits
    exact ⟨q, c, rfl, hq, hc1, hc2, bW.trans B6⟩

/-- what was sealed, and how many bytes the seal has -/
def openF (bs : List Int) : Option (List Int × Nat) :=
  match runF bs with
  | none => none
  | some (m, k) => if (getF (bs.drop (m + k))).2.2 ≠ 0 ∨ (getF (bs.drop (m + k))).1 ≠ sumF ((bs.drop m).take k) then none else some ((bs.drop m).take k, m + k + (getF (bs.drop (m + k))).2.1)
theorem openF_none {bs : List Int} (h : runF bs = none) : openF bs = none := by unfold openF; rw [h]
theorem openF_some {bs : List Int} {m k : Nat} (h : runF bs = some (m, k)) : openF bs = if (getF (bs.drop (m + k))).2.2 ≠ 0 ∨ (getF (bs.drop (m + k))).1 ≠ sumF ((bs.drop m).take k) then none else some ((bs.drop m).take k, m + k + (getF (bs.drop (m + k))).2.1) := by
  unfold openF; rw [h]

def OpenPost (w : World) (bs : List Int) (e : Ending) (w' : World) : Prop :=
  Below w.heap.size w w' ∧ ((openF bs = none ∧ e = .returned (.tuple #[.slice none 0 0, .int .i64 0, .int .i64 3])) ∨
    ∃ inner at_ q cq, openF bs = some (inner, at_) ∧ at_ ≤ bs.length ∧ inner.length ≤ bs.length ∧ e = .returned (.tuple #[.slice q inner.length cq, .int .i64 (at_ : Int), .int .i64 0]) ∧ Byts w' q inner ∧ inner.length ≤ cq ∧ (q = none → cq = 0))

set_option maxHeartbeats 4000000 in
theorem Open_any (p : Option Addr) (bs : List Int) (cap : Nat) (w : World) (hx : Byts w p bs) (hl : bs.length ≤ 1000000) (hcap : bs.length ≤ cap) (hp : p = none → cap = 0) :
    Calls Try.prog 18 #[.slice p bs.length cap] w (OpenPost w bs) := by
  have HX := Lib.hid hx
  clear hx
  go_enter Try.func18, Try.ntmps18
  go_wp2_with fail
  refine (run_any p bs cap w HX.out hl hcap hp).mono ?_
  rintro e w1 ⟨b1, ⟨hr, rfl⟩ | ⟨m, k, b, off, cq, hr, hk, rfl, hq, hkc⟩⟩
  · have HR := Lib.hid (openF_none hr)
    clear hr
    go_wp2_with fail
    refine bodyPost_ret (v := .tuple #[.slice none 0 0, .int .i64 0, .int .i64 3]) (by simp [results, Try.results18, go_sem]) rfl ?_
    exact ⟨b1, .inl ⟨HR.out, rfl⟩⟩
  · have HR := Lib.hid (openF_some hr)
    have hln : ((bs.drop m).take k).length = k := part_len hk
    have X1 := Lib.hid (HX.out.later b1)
    have Q1 := Lib.hid hq
    have hdl : (bs.drop (m + k)).length = bs.length - (m + k) := by simp
    have key : ∀ q cq, Byts w1 q (bs.drop (m + k)) → Calls Try.prog 35 #[.slice q (bs.length - (m + k)) cq] w1 (GetPost w1 (bs.drop (m + k))) := fun q cq h => by
      rw [← hdl]; exact Get_any q _ cq w1 h (by rw [hdl]; omega)
    have KEY := Lib.hid key
    have hgl := getF_len (bs.drop (m + k))
    rw [hdl] at hgl
    generalize hin : (bs.drop m).take k = inner at *
    clear hr hq hdl key
    have HLN := Lib.hid hln
    have hmk : m + k ≤ cap := by omega
    have hmi : ((m : Int) + k) ≤ bs.length := by omega
    go_wp2_with fail
    all_goals (
      refine (KEY.out _ _ ?_).mono ?_
      · first
          | (rw [show bs.drop (m + k) = [] from List.drop_eq_nil_of_le (by omega)]; exact Byts.nil _ _)
          | (rcases p with _ | ad
             · have := hp rfl
               rw [show bs.drop (m + k) = [] from List.drop_eq_nil_of_le (by omega)]; exact Byts.nil _ _
             · exact X1.out.rest (m + k))
      rintro e w2 ⟨rfl, b2⟩
      have Q2 := Lib.hid (Q1.out.later b2)
      generalize getF (bs.drop (m + k)) = g at *
      obtain ⟨s, j, er⟩ := g
      simp only at hgl HR ⊢
      have b12 := below_trans b1 b2
      by_cases her : er = 0
      · subst her
        have hS := Sum_any (some ⟨b, off, none⟩) inner cq w2 Q2.out (by rw [hln]; omega)
        rw [hln] at hS
        have HS := Lib.hid hS
        clear hS hln
        by_cases hs : s = sumF inner
        · have HF : RowKit.Hid (openF bs = some (inner, m + k + j)) := Lib.hid (by rw [HR.out, if_neg (by simp [hs])])
          subst hs
          go_wp2_with fail
          refine HS.out.mono ?_
          rintro e w3 ⟨rfl, b3⟩
          have hC := Clone_any (some ⟨b, off, none⟩) inner cq w3 (Q2.out.later b3) (by rw [HLN.out]; omega) (by simp)
          rw [HLN.out] at hC
          have b13 := below_trans b12 b3
          go_wp2_with fail
          refine hC.mono ?_
          rintro e w4 ⟨p4, c4, rfl, x4, hk4, hp4, b4⟩
          have X4 := Lib.hid x4
          have b14 := below_trans b13 b4
          clear x4 hC
          go_wp2_with fail
          refine bodyPost_ret (v := .tuple #[.slice p4 k c4, .int .i64 ((m + k + j : Nat) : Int), .int .i64 0]) (by simp [results, Try.results18, go_sem]) rfl ?_
          exact ⟨b14, .inr ⟨inner, m + k + j, p4, c4, HF.out, by omega, by rw [HLN.out]; omega, by rw [HLN.out], X4.out, by rw [HLN.out]; exact hk4, hp4⟩⟩
        · have HF : RowKit.Hid (openF bs = none) := Lib.hid (by rw [HR.out, if_pos (.inr hs)])
          have hs2 : (s == sumF inner) = false := by simpa using hs
          have hs3 : (s != sumF inner) = true := by simpa using hs
          clear hs
          go_wp2_with fail
          refine HS.out.mono ?_
          rintro e w3 ⟨rfl, b3⟩
          have b13 := below_trans b12 b3
          go_wp2_with fail
          refine bodyPost_ret (v := .tuple #[.slice none 0 0, .int .i64 0, .int .i64 3]) (by simp [results, Try.results18, go_sem]) rfl ?_
          exact ⟨b13, .inl ⟨HF.out, rfl⟩⟩
      · have HF : RowKit.Hid (openF bs = none) := Lib.hid (by rw [HR.out, if_pos (.inl her)])
        have h2 : (er == 0) = false := by simpa using her
        have h3 : (er != 0) = true := by simpa using her
        clear her
        go_wp2_with fail
        refine bodyPost_ret (v := .tuple #[.slice none 0 0, .int .i64 0, .int .i64 3]) (by simp [results, Try.results18, go_sem]) rfl ?_
        exact ⟨b12, .inl ⟨HF.out, rfl⟩⟩)

end Go.Proofs.Ytbfbfpjfmdannaa
