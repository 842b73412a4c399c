/-
  WIRE: the contracts of the document's Open.
-/
import Derived.Test.YtbfbfpjfmdannaaWireQ
namespace Go.Proofs.Ytbfbfpjfmdannaa
open Go.ChangeShapes Go.WideShapes Go.ChangeAt Go.RowKit Go.Lib

set_option maxHeartbeats 1000000 in
theorem rOpen_any (p : Option Addr) (bs : List Int) (cap : Nat) (w : World) (hx : Byts w p bs) (hl : bs.length ≤ 1000000) (hcap : bs.length ≤ cap) :
    Calls Try.prog 32 #[.slice p bs.length cap] w (OpenPost w bs) := by
  have hG := rGet_any p bs cap w hx hl hcap
  unfold GetPost at hG
  rcases getF_cases bs with ⟨h1, -⟩ | ⟨u, m, -, h1, hm1, hm2, hm3⟩
  · rw [h1] at hG
    have hr : runF bs = none := by unfold runF; rw [h1]; simp
    have HR := Lib.hid (openF_none hr)
    have HG := Lib.hid hG
    clear hG hr h1
    go_enter Try.func32, Try.ntmps32
    go_wp2_with fail
    refine HG.out.mono ?_
    rintro e w1 ⟨rfl, hb⟩
    go_wp2_with fail
    refine bodyPost_ret (v := .tuple #[.slice none 0 0, .int .i64 0, .int .i64 3]) (by simp [results, Try.results32, go_sem]) rfl ?_
    exact ⟨hb, .inl ⟨HR.out, rfl⟩⟩
  · rw [h1] at hG
    have hr : runF bs = if zag u < 0 ∨ ((bs.length : Int) - (m : Nat) < zag u) then none else some (m, (zag u).toNat) := by unfold runF; rw [h1]; simp
    generalize zag u = n at *
    have HG := Lib.hid hG
    clear hG h1
    by_cases hn : n < 0 ∨ ((bs.length : Int) - (m : Nat) < n)
    · rw [if_pos hn] at hr
      have HR := Lib.hid (openF_none hr)
      clear hr
      go_enter Try.func32, Try.ntmps32
      go_wp2_with fail
      refine HG.out.mono ?_
      rintro e w1 ⟨rfl, hb⟩
      go_wp2_with fail
      all_goals first
        | (exfalso; omega)
        | (refine bodyPost_ret (v := .tuple #[.slice none 0 0, .int .i64 0, .int .i64 3]) (by simp [results, Try.results32, go_sem]) rfl ?_
           exact ⟨hb, .inl ⟨HR.out, rfl⟩⟩)
    · rw [if_neg hn] at hr
      obtain ⟨k, rfl⟩ := Int.eq_ofNat_of_zero_le (show 0 ≤ n by omega)
      have hk : m + k ≤ bs.length := by omega
      have HR := Lib.hid (openF_some hr)
      clear hn hr
      rw [Int.toNat_natCast] at HR
      obtain ⟨b, off, rfl, -, -⟩ := hx.cells 0 (by omega)
      have HX := Lib.hid hx
      clear hx
      have hdl : (bs.drop (m + k)).length = bs.length - (m + k) := by simp
      have key : ∀ q cq w1, Byts w1 q (bs.drop (m + k)) → bs.length - (m + k) ≤ cq → Calls Try.prog 42 #[.slice q (bs.length - (m + k)) cq] w1 (GetPost w1 (bs.drop (m + k))) := fun q cq w1 h hq => by
        rw [← hdl]; exact rGet_any q _ cq w1 h (by rw [hdl]; omega) (by rw [hdl]; exact hq)
      have KEY := Lib.hid key
      have hgl := getF_len (bs.drop (m + k))
      rw [hdl] at hgl
      have hin : ((bs.drop m).take k).length = k := part_len hk
      have hinner : ∀ w1, Below w.heap.size w w1 → Byts w1 (some ⟨b, off + m, none⟩) ((bs.drop m).take k) := fun w1 hb => (HX.out.later hb).part m k
      have hnil : k = 0 → (bs.drop m).take k = [] := fun h => by rw [h, List.take_zero]
      generalize (bs.drop m).take k = inner at *
      have HIN := Lib.hid hinner
      have HLN := Lib.hid hin
      have HNIL := Lib.hid hnil
      have HGL := Lib.hid hgl
      have hS : ∀ q cq w2, Byts w2 (some q) inner → Calls Try.prog 41 #[.slice (some q) k cq] w2 fun e w' => e = .returned (.int .i64 (sumF inner)) ∧ Below w2.heap.size w2 w' := fun q cq w2 h => by
        have := rSum_any (some q) inner cq w2 h (by rw [hin]; omega)
        rw [hin] at this; exact this
      have HS := Lib.hid hS
      have hmk : m + k ≤ cap := by omega
      clear key hdl hinner hin hnil hS hgl
      have hcase : ((cap = m ∧ k = 0) ∧ RowKit.Hid (∀ w1, Below w.heap.size w w1 → Calls Try.prog 42 #[.slice (some ⟨b, off, none⟩) 0 0] w1 (GetPost w1 (bs.drop (m + k))))) ∨
          ((cap = m + k ∧ k ≠ 0) ∧ RowKit.Hid (∀ w1, Below w.heap.size w w1 → Calls Try.prog 42 #[.slice (some ⟨b, off, none⟩) 0 0] w1 (GetPost w1 (bs.drop (m + k))))) ∨
          ((cap ≠ m ∧ cap ≠ m + k) ∧ RowKit.Hid (∀ w1, Below w.heap.size w w1 → Calls Try.prog 42 #[.slice (some ⟨b, off + (m + k), none⟩) (bs.length - (m + k)) (cap - (m + k))] w1 (GetPost w1 (bs.drop (m + k))))) := by
        have k0 : bs.length ≤ m + k → ∀ w1, Calls Try.prog 42 #[.slice (some ⟨b, off, none⟩) 0 0] w1 (GetPost w1 (bs.drop (m + k))) := fun h w1 => by
          rw [List.drop_eq_nil_of_le h]
          exact rGet_any (some ⟨b, off, none⟩) [] 0 w1 (Byts.nil _ _) (by simp) (by simp)
        by_cases h1 : cap = m
        · exact .inl ⟨⟨h1, by omega⟩, Lib.hid fun w1 _ => k0 (by omega) w1⟩
        · by_cases h2 : cap = m + k
          · exact .inr (.inl ⟨⟨h2, by omega⟩, Lib.hid fun w1 _ => k0 (by omega) w1⟩)
          · refine .inr (.inr ⟨⟨h1, h2⟩, Lib.hid fun w1 hb => KEY.out _ _ _ ?_ (by omega)⟩)
            have h1 := (HX.out.later hb).rest (m + k)
            rw [addr_add] at h1
            exact h1
      clear KEY
      generalize hgg : getF (bs.drop (m + k)) = g at *
      have HGG := Lib.hid hgg
      clear hgg
      obtain ⟨s, j, er⟩ := g
      simp only at HGL HR
      rcases hcase with ⟨⟨rfl, rfl⟩, KK⟩ | ⟨⟨rfl, hk0⟩, KK⟩ | ⟨⟨hc1, hc2⟩, KK⟩
      all_goals (
        by_cases her : er = 0
        · subst her
          by_cases hs : s = sumF inner
          · have HF := Lib.hid (HR.out.trans (if_neg (by simp [hs])))
            subst hs
            clear HR
            go_enter Try.func32, Try.ntmps32
            go_wp2_with fail
            refine HG.out.mono ?_
            rintro e w1 ⟨rfl, b1⟩
            clear HG
            go_wp2_with fail
            refine (KK.out _ b1).mono ?_
            unfold GetPost
            rw [HGG.out]
            rintro e w2 ⟨rfl, b2⟩
            have b12 := below_trans b1 b2
            have hgl := HGL.out
            go_wp2_with fail
            refine (HS.out _ _ _ ?_).mono ?_
            · first
                | exact HIN.out _ b12
                | (rw [HNIL.out (by simp)]; exact Byts.nil _ _)
            rintro e w3 ⟨rfl, b3⟩
            have b13 := below_trans b12 b3
            go_wp2_with fail
            first
              | (refine bodyPost_ret (v := .tuple #[.slice (some ⟨b, off + m, none⟩) k (cap - m), .int .i64 ((m + k + j : Nat) : Int), .int .i64 0]) (by simp [results, Try.results32, go_sem]; done) rfl ?_
                 exact ⟨b13, .inr ⟨inner, m + k + j, _, _, HF.out, by omega, by rw [HLN.out]; omega, by rw [HLN.out], HIN.out _ b13, (by have := HLN.out; omega), fun h => by cases h⟩⟩)
              | (refine bodyPost_ret (v := .tuple #[.slice (some ⟨b, off + m, none⟩) k k, .int .i64 ((m + k + j : Nat) : Int), .int .i64 0]) (by simp [results, Try.results32, go_sem]; done) rfl ?_
                 exact ⟨b13, .inr ⟨inner, m + k + j, _, _, HF.out, by omega, by rw [HLN.out]; omega, by rw [HLN.out], HIN.out _ b13, (by have := HLN.out; omega), fun h => by cases h⟩⟩)
              | (refine bodyPost_ret (v := .tuple #[.slice (some ⟨b, off, none⟩) 0 0, .int .i64 ((cap + 0 + j : Nat) : Int), .int .i64 0]) (by simp [results, Try.results32, go_sem]; done) rfl ?_
                 exact ⟨b13, .inr ⟨inner, cap + 0 + j, _, _, HF.out, by omega, by rw [HLN.out]; omega, by rw [HLN.out], by rw [HNIL.out (by simp)]; exact Byts.nil _ _, (by have := HLN.out; omega), fun h => by cases h⟩⟩)
          · have HF := Lib.hid (HR.out.trans (if_pos (.inr hs)))
            have hs2 : (s == sumF inner) = false := by simpa using hs
            have hs3 : (s != sumF inner) = true := by simpa using hs
            clear hs HR
            go_enter Try.func32, Try.ntmps32
            go_wp2_with fail
            refine HG.out.mono ?_
            rintro e w1 ⟨rfl, b1⟩
            clear HG
            go_wp2_with fail
            refine (KK.out _ b1).mono ?_
            unfold GetPost
            rw [HGG.out]
            rintro e w2 ⟨rfl, b2⟩
            have b12 := below_trans b1 b2
            go_wp2_with fail
            refine (HS.out _ _ _ ?_).mono ?_
            · first
                | exact HIN.out _ b12
                | (rw [HNIL.out (by simp)]; exact Byts.nil _ _)
            rintro e w3 ⟨rfl, b3⟩
            have b13 := below_trans b12 b3
            go_wp2_with fail
            refine bodyPost_ret (v := .tuple #[.slice none 0 0, .int .i64 0, .int .i64 3]) (by simp [results, Try.results32, go_sem]) rfl ?_
            exact ⟨b13, .inl ⟨HF.out, rfl⟩⟩
        · have HF := Lib.hid (HR.out.trans (if_pos (.inl her)))
          have h2 : (er == 0) = false := by simpa using her
          have h3 : (er != 0) = true := by simpa using her
          clear her HR
          go_enter Try.func32, Try.ntmps32
          go_wp2_with fail
          refine HG.out.mono ?_
          rintro e w1 ⟨rfl, b1⟩
          clear HG
          go_wp2_with fail
          refine (KK.out _ b1).mono ?_
          unfold GetPost
          rw [HGG.out]
          rintro e w2 ⟨rfl, b2⟩
          have b12 := below_trans b1 b2
          go_wp2_with fail
          refine bodyPost_ret (v := .tuple #[.slice none 0 0, .int .i64 0, .int .i64 3]) (by simp [results, Try.results32, go_sem]) rfl ?_
          exact ⟨b12, .inl ⟨HF.out, rfl⟩⟩)

end Go.Proofs.Ytbfbfpjfmdannaa
