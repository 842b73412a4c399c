/-
  TRACE: Parse, of all bytes. Written by wip/tools/gen/tre.py.
-/
import Derived.Test.YtbfbfpjfmdannaaTrD
import Derived.Test.YtbfbfpjfmdannaaWireT
import Derived.Laws.OwnMore
import Derived.Laws.Cover3
namespace Go.Proofs.Ytbfbfpjfmdannaa
open Go.ChangeShapes Go.WideShapes Go.ChangeAt Go.RowKit

/-- how events are read, told at once -/
def ParsePost (w : World) (bs : List Int) (r : Ending) (w' : World) : Prop :=
  ∃ (l : List EvV) (q : Option Addr) (c : Nat) (er : Int), (trParse bs = none → l = [] ∧ er = 3) ∧ (∀ x, trParse bs = some x → l = x ∧ er = 0) ∧ l.length ≤ bs.length ∧ r = .returned (.tuple #[.slice q l.length c, .int .i64 er]) ∧ EvsR w' q l ∧ Below w.heap.size w w'
theorem ParsePost.none {w w' : World} {bs : List Int} (h : trParse bs = none) (hb : Below w.heap.size w w') : ParsePost w bs (.returned (.tuple #[.slice none 0 0, .int .i64 3])) w' :=
  ⟨[], Option.none, 0, 3, fun _ => ⟨rfl, rfl⟩, (fun x hx => by rw [h] at hx; cases hx), by simp, rfl, ⟨Evs.nil _ _, fun e he => absurd he (by simp)⟩, hb⟩

theorem trParse_open_none {bs : List Int} (h : openF bs = none) : trParse bs = none := by unfold trParse; rw [h]
theorem trParse_open_some {bs inn : List Int} {n : Nat} (h : openF bs = some (inn, n)) : trParse bs = if n = bs.length then (match numsG inn with | none => none | some (nums, m) => if m = inn.length ∧ nums.length % 8 = 0 then evRows nums else none) else none := by
  unfold trParse
  rw [h]
  rfl
theorem evRows_in : ∀ (n : List Int) (l : List EvV), (∀ x ∈ n, In64 x) → evRows n = some l → (∀ e ∈ l, e.In) ∧ l.length * 8 = n.length := by
  intro n l hn h
  have hb := evRows_back n l h
  have hl := evNums_len l
  rw [hb] at hl
  refine ⟨fun e he => ?_, by omega⟩
  have : ∀ x ∈ e.row, In64 x := fun x hx => hn x (by rw [← hb]; exact List.mem_flatMap.2 ⟨e, he, hx⟩)
  exact ⟨this _ (by simp [EvV.row]), this _ (by simp [EvV.row]), this _ (by simp [EvV.row]), this _ (by simp [EvV.row]), this _ (by simp [EvV.row]), this _ (by simp [EvV.row]), this _ (by simp [EvV.row])⟩
/-- what was read so far, and the rest -/
def Rd (nums : List Int) (i : Nat) (ls : List EvV) : Prop := ls.length = i ∧ evRows nums = (evRows (nums.drop (8 * i))).map fun r => ls ++ r
theorem Rd.zero (nums : List Int) : Rd nums 0 [] := ⟨rfl, by simp⟩
theorem drop8 (nums : List Int) (k : Nat) (h : k + 8 ≤ nums.length) : nums.drop k = nums.getD k 0 :: nums.getD (k + 1) 0 :: nums.getD (k + 2) 0 :: nums.getD (k + 3) 0 :: nums.getD (k + 4) 0 :: nums.getD (k + 5) 0 :: nums.getD (k + 6) 0 :: nums.getD (k + 7) 0 :: nums.drop (k + 8) := by
  have one : ∀ j, j < nums.length → nums.drop j = nums.getD j 0 :: nums.drop (j + 1) := fun j hj => by
    rw [List.drop_eq_getElem_cons hj, List.getD_eq_getElem?_getD, List.getElem?_eq_getElem hj]; rfl
  rw [one k (by omega), one (k + 1) (by omega), one (k + 1 + 1) (by omega), one (k + 1 + 1 + 1) (by omega), one (k + 1 + 1 + 1 + 1) (by omega), one (k + 1 + 1 + 1 + 1 + 1) (by omega), one (k + 1 + 1 + 1 + 1 + 1 + 1) (by omega), one (k + 1 + 1 + 1 + 1 + 1 + 1 + 1) (by omega)]
theorem Rd.step {nums : List Int} {i : Nat} {ls : List EvV} (h : Rd nums i ls) {a0 a1 a2 a3 a4 a5 a6 a7 : Int} {r : List Int} (hd : nums.drop (8 * i) = a0 :: a1 :: a2 :: a3 :: a4 :: a5 :: a6 :: a7 :: r) (hr : nums.drop (8 * (i + 1)) = r) :
    (decide (a7 = 0 ∨ a7 = 1) = true → Rd nums (i + 1) (ls ++ [⟨a0, a1, a2, a3, a4, a5, a6, decide (a7 = 1)⟩])) ∧ (decide (a7 = 0 ∨ a7 = 1) = false → evRows nums = none) := by
  obtain ⟨h1, h2⟩ := h
  rw [hd] at h2
  have e : evRows (a0 :: a1 :: a2 :: a3 :: a4 :: a5 :: a6 :: a7 :: r) = if a7 = 0 ∨ a7 = 1 then (evRows r).map (fun l => (⟨a0, a1, a2, a3, a4, a5, a6, decide (a7 = 1)⟩ : EvV) :: l) else none := rfl
  rw [e] at h2
  refine ⟨fun hq => ⟨by simp [h1], ?_⟩, fun hq => ?_⟩
  · rw [if_pos (of_decide_eq_true hq)] at h2
    rw [h2, hr, Option.map_map]
    congr 1
    funext x
    simp
  · rw [if_neg (of_decide_eq_false hq)] at h2
    rw [h2]; rfl
theorem Rd.done {nums : List Int} {i : Nat} {ls : List EvV} (h : Rd nums i ls) (hi : nums.length ≤ 8 * i) : evRows nums = some ls := by
  rw [h.2, List.drop_eq_nil_of_le hi]
  show some (ls ++ []) = _
  rw [List.append_nil]
def sLen : Value → Nat
  | .slice _ n _ => n
  | _ => 0

theorem evInfo : (Try.prog.info? 48).map (fun i => (i.zero, i.size, i.bytes)) = some (some (.agg #[.int .i64 0, .int .i64 0, .int .i64 0, .int .i64 0, .int .i64 0, .int .i64 0, .int .i64 0, .bool false]), 8, 64) := by kernel_rfl
set_option maxRecDepth 100000 in
theorem make_evs (n : Nat) (hn : n ≤ 1000000) (w : World) : (Instr.makeSlice 22 (.int .i64 0) (.int .i64 (n : Int))).run Try.prog w = .ok (.slice (some ⟨w.heap.size, 0, none⟩) 0 n) (w.alloc (.cells (madeCells #[Value.int .i64 0, .int .i64 0, .int .i64 0, .int .i64 0, .int .i64 0, .int .i64 0, .int .i64 0, .bool false] (n * 8)) 48)) := by
  obtain ⟨i0, hi0⟩ : ∃ i, Try.prog.info? 48 = some i := ⟨_, rfl⟩
  have hz := evInfo
  rw [hi0] at hz
  simp only [Option.map_some, Option.some.injEq, Prod.mk.injEq] at hz
  obtain ⟨hz0, hz1, hz2⟩ := hz
  have hr := run_make (P := Try.prog) w 22 48 i0 _ Try.underlying22 hi0 hz0 .i64 .i64 0 n (by omega) (by omega) (by rw [hz2]; omega) (by omega)
  rw [hz1] at hr
  simp only [Int.toNat_natCast] at hr
  exact hr

theorem Ints.kept {w w1 : World} {g off : Nat} {cs : List Int} {row : Option Nat} (h : Ints w (some ⟨g, off, none⟩) cs) (hg : w.grownBy w1 row) (hr : row ≠ some g) : Ints w1 (some ⟨g, off, none⟩) cs :=
  ⟨fun i hi => by
    obtain ⟨b, o, h1, h2, h3⟩ := h.cells i hi
    simp only [Option.some.injEq, Addr.mk.injEq, and_true] at h1
    obtain ⟨rfl, rfl⟩ := h1
    refine ⟨_, _, rfl, Nat.lt_of_lt_of_le h2 hg.size, ?_⟩
    have := hg.block g h2 (fun e => hr e.symm)
    unfold World.cell? at h3 ⊢
    simp only at h3 ⊢
    rw [this]; exact h3, h.rng⟩

set_option maxRecDepth 100000 in
set_option maxHeartbeats 8000000 in
theorem parse_any (p : Option Addr) (bs : List Int) (cap : Nat) (w : World) (hx : Byts w p bs) (hl : bs.length ≤ 100000) (hcap : bs.length ≤ cap) (hp : p = none → cap = 0) :
    Calls Try.prog 10 #[.slice p bs.length cap] w (ParsePost w bs) := by
  have HX := Lib.hid hx
  clear hx
  go_enter Try.func10, Try.ntmps10
  go_wp2_with fail
  refine (Open_any p bs cap w HX.out (by omega) hcap hp).mono ?_
  rintro r w1 ⟨hb1, ⟨ho, rfl⟩ | ⟨inner, at_, q, cq, ho, hat, hil, rfl, hi, hic, hin⟩⟩
  · have HP := Lib.hid (trParse_open_none ho)
    have HB := Lib.hid hb1
    clear ho hb1
    go_wp2_with fail
    refine bodyPost_ret (v := .tuple #[.slice none 0 0, .int .i64 3]) (by simp [results, Try.results10, go_sem]) rfl ?_
    exact ParsePost.none HP.out HB.out
  · have HP := Lib.hid (trParse_open_some ho)
    have HB := Lib.hid hb1
    have HI := Lib.hid hi
    clear ho hb1 hi
    by_cases hab : ¬ at_ = bs.length
    · have m1 : ((at_ : Int) != (bs.length : Int)) = true := by simp; omega
      have m2 : ((at_ : Int) == (bs.length : Int)) = false := by simp; omega
      have HP2 : Hid (trParse bs = none) := Lib.hid (by rw [HP.out, if_neg hab])
      clear hab
      go_wp2_with fail
      refine bodyPost_ret (v := .tuple #[.slice none 0 0, .int .i64 3]) (by simp [results, Try.results10, go_sem]) rfl ?_
      exact ParsePost.none HP2.out HB.out
    replace hab := Classical.not_not.1 hab
    have HP := Lib.hid (HP.out.trans (if_pos hab))
    have m1 : ((at_ : Int) != (bs.length : Int)) = false := by simp; omega
    have m2 : ((at_ : Int) == (bs.length : Int)) = true := by simp; omega
    have HAB := Lib.hid hab
    clear hab
    go_wp2_with fail
    refine (GetNums_any q inner cq w1 ⟨HI.out, by omega, hic, hin⟩).mono ?_
    clear m1 m2
    rintro r w2 ⟨hb2, ⟨hg, rfl⟩ | ⟨nums, at2, g, hg, ha2, rfl, hn⟩⟩
    · have HP2 : Hid (trParse bs = none) := Lib.hid (by rw [HP.out, hg])
      have HB2 := Lib.hid (HB.out.trans (hb2.mono HB.out.size))
      clear hg hb2
      go_wp2_with fail
      refine bodyPost_ret (v := .tuple #[.slice none 0 0, .int .i64 3]) (by simp [results, Try.results10, go_sem]) rfl ?_
      exact ParsePost.none HP2.out HB2.out
    have HP := Lib.hid (HP.out.trans (by rw [hg] : _ = if at2 = inner.length ∧ nums.length % 8 = 0 then evRows nums else none))
    have hgl : nums.length ≤ inner.length := by
      rw [numsG_eq] at hg
      split at hg
      · cases hg
      · obtain ⟨⟨r1, r2⟩, hr, he⟩ := Option.map_eq_some_iff.1 hg
        have := getRow_len _ _ r1 r2 hr
        simp only [Prod.mk.injEq] at he
        rw [List.length_drop] at this
        rw [← he.1]; omega
    have HB := Lib.hid (HB.out.trans (hb2.mono HB.out.size))
    have HN := Lib.hid hn
    obtain ⟨L, hL⟩ : ∃ L, nums.length = L := ⟨_, rfl⟩
    have HL := Lib.hid hL
    rw [hL] at hgl ⊢
    clear hg hb2 hn hL
    have hLM : L ≤ 100000 := by omega
    have HBL : Hid (L ≤ bs.length) := Lib.hid (by omega)
    by_cases hab : ¬ at2 = inner.length
    · have m1 : ((at2 : Int) != (inner.length : Int)) = true := by simp; omega
      have m2 : ((at2 : Int) == (inner.length : Int)) = false := by simp; omega
      have HP2 : Hid (trParse bs = none) := Lib.hid (by rw [HP.out, if_neg (fun h => hab h.1)])
      clear hab
      go_wp2_with fail
      refine bodyPost_ret (v := .tuple #[.slice none 0 0, .int .i64 3]) (by simp [results, Try.results10, go_sem]) rfl ?_
      exact ParsePost.none HP2.out HB.out
    replace hab := Classical.not_not.1 hab
    have m1 : ((at2 : Int) != (inner.length : Int)) = false := by simp; omega
    have m2 : ((at2 : Int) == (inner.length : Int)) = true := by simp; omega
    have ht : (L : Int).tmod 8 = ((L % 8 : Nat) : Int) := by rw [Int.tmod_eq_emod_of_nonneg (by omega)]; omega
    by_cases hm8 : ¬ L % 8 = 0
    · have t1 : ((L : Int).tmod 8 != 0) = true := by rw [ht]; simp; omega
      have t2 : ((L : Int).tmod 8 == 0) = false := by rw [ht]; simp; omega
      have t3 : ((L : Int) % 8 != 0) = true := by simp; omega
      have t4 : ((L : Int) % 8 == 0) = false := by simp; omega
      have t5 : IntKind.i64.wrap ((L : Int).tmod 8) = (L : Int).tmod 8 := by rw [ht, IntKind.wrap_i64]; omega
      have HP2 : Hid (trParse bs = none) := Lib.hid (by rw [HP.out, HL.out, if_neg (fun h => hm8 h.2)])
      clear hab hm8 ht
      go_wp2_with fail
      refine bodyPost_ret (v := .tuple #[.slice none 0 0, .int .i64 3]) (by simp [results, Try.results10, go_sem]) rfl ?_
      exact ParsePost.none HP2.out HB.out
    replace hm8 := Classical.not_not.1 hm8
    have HP := Lib.hid (HP.out.trans (if_pos ⟨hab, by rw [HL.out]; exact hm8⟩))
    obtain ⟨K, hK⟩ : ∃ K, L = 8 * K := ⟨L / 8, by omega⟩
    have t1 : ((L : Int).tmod 8 != 0) = false := by rw [ht]; simp; omega
    have t2 : ((L : Int).tmod 8 == 0) = true := by rw [ht]; simp; omega
    have t3 : ((L : Int) % 8 != 0) = false := by simp; omega
    have t4 : ((L : Int) % 8 == 0) = true := by simp; omega
    have t5 : IntKind.i64.wrap ((L : Int).tmod 8) = (L : Int).tmod 8 := by rw [ht, IntKind.wrap_i64]; omega
    have t6 : (L : Int).tdiv 8 = (K : Int) := by rw [Int.tdiv_eq_ediv_of_nonneg (by omega)]; omega
    have t7 : (L : Int) / 8 = (K : Int) := by omega
    have wK : IntKind.i64.wrap (K : Int) = K := by rw [IntKind.wrap_i64]; omega
    have hmk := fun wx => make_evs K (by omega) wx
    have HK := Lib.hid hK
    have hK1 : K ≤ 100000 := by omega
    obtain ⟨i0, hi0⟩ : ∃ i, Try.prog.info? 48 = some i := ⟨_, rfl⟩
    have hz := evInfo
    rw [hi0] at hz
    simp only [Option.map_some, Option.some.injEq, Prod.mk.injEq] at hz
    obtain ⟨hz0, hz1, hz2⟩ := hz
    clear hab hm8 ht hK
    obtain ⟨V, hV⟩ : ∃ V, V = w2.alloc (Obj.cells (madeCells #[Value.int .i64 0, .int .i64 0, .int .i64 0, .int .i64 0, .int .i64 0, .int .i64 0, .int .i64 0, .bool false] (K * 8)) 48) := ⟨_, rfl⟩
    have hbv : Below w2.heap.size w2 V := by rw [hV]; exact bel_alloc (Below.refl _ _) _
    have HO : Hid (V.ownsRow w.heap.size 48 8 (.slice (some ⟨w2.heap.size, 0, none⟩) 0 K) 0 (evV [])) := Lib.hid (by
      rw [hV]
      refine ⟨rfl, .inr ⟨w2.heap.size, K, _, rfl, HB.out.size, Blk.made _ _ _, by omega, by unfold maxLen; omega, by rw [size_madeCells], by simp; rfl⟩⟩)
    have HNG : Hid (0 < L → (Value.slice (some ⟨w2.heap.size, 0, none⟩) 0 K).ownBlock ≠ some g) := Lib.hid (fun h0 => by
      obtain ⟨b, off, h1, h2, _⟩ := HN.out.cells 0 (by rw [HL.out]; exact h0)
      simp only [Option.some.injEq, Addr.mk.injEq, and_true] at h1
      simp [Value.ownBlock]; omega)
    have HN := Lib.hid (HN.out.later hbv)
    have HB := Lib.hid (HB.out.trans (hbv.mono HB.out.size))
    have HV := Lib.hid hV
    clear hV hbv HI
    go_wp2_with fail
    rw [← HV.out]
    clear t1 t2 t3 t4 t5 t6 t7 m1 m2 hmk
    go_loopw [7, 8] (fun vn vl wr => ∃ (i R off : Nat) (ls : List EvV), vn = .slice (some ⟨g, off, none⟩) R R ∧ R + 8 * i = L ∧ (i < K → off = 8 * i) ∧ Hid (Rd nums i ls) ∧ ∃ W', W' = wr ∧ Hid (W'.ownsRow w.heap.size 48 8 vl i (evV ls)) ∧ Hid (Ints W' (some ⟨g, 0, none⟩) nums) ∧ Hid (0 < L → vl.ownBlock ≠ some g) ∧ Hid (Below w.heap.size w W')) (fun vn _ _ => sLen vn)
    case atStart => exact ⟨0, L, 0, [], rfl, by omega, fun _ => rfl, Lib.hid (Rd.zero _), _, rfl, HO, HN, HNG, HB⟩
    case round =>
      clear HO HN HNG HB HV
      obtain ⟨i, R, off, ls, rfl, hR, hoff, HRD, wr, rfl, HO, HN, HNG, HB⟩ := hrel
      by_cases hlt : 0 < R
      · have hiK : i < K := by have := HK.out; omega
        obtain rfl := hoff hiK
        have hR8 : 8 ≤ R := by have := HK.out; omega
        clear hoff
        have hcell : ∀ j, j < 8 → wr.cell? ⟨g, 8 * i + j, none⟩ = some (.int .i64 (nums.getD (8 * i + j) 0)) := fun j hj => by
          have hlen : 8 * i + j < nums.length := by rw [HL.out]; omega
          obtain ⟨b, o, h1, h2, h3⟩ := HN.out.cells (8 * i + j) hlen
          simp only [Option.some.injEq, Addr.mk.injEq, and_true] at h1
          obtain ⟨rfl, rfl⟩ := h1
          rw [Nat.zero_add] at h3
          rw [h3, List.getD_eq_getElem?_getD, List.getElem?_eq_getElem hlen]; rfl
        have hd8 := drop8 nums (8 * i) (by rw [HL.out]; omega)
        have hst := HRD.out.step hd8 (by rw [show 8 * (i + 1) = 8 * i + 8 by omega])
        obtain ⟨a0, ha0⟩ : ∃ a, nums.getD (8 * i) 0 = a := ⟨_, rfl⟩
        obtain ⟨a1, ha1⟩ : ∃ a, nums.getD (8 * i + 1) 0 = a := ⟨_, rfl⟩
        obtain ⟨a2, ha2⟩ : ∃ a, nums.getD (8 * i + 2) 0 = a := ⟨_, rfl⟩
        obtain ⟨a3, ha3⟩ : ∃ a, nums.getD (8 * i + 3) 0 = a := ⟨_, rfl⟩
        obtain ⟨a4, ha4⟩ : ∃ a, nums.getD (8 * i + 4) 0 = a := ⟨_, rfl⟩
        obtain ⟨a5, ha5⟩ : ∃ a, nums.getD (8 * i + 5) 0 = a := ⟨_, rfl⟩
        obtain ⟨a6, ha6⟩ : ∃ a, nums.getD (8 * i + 6) 0 = a := ⟨_, rfl⟩
        obtain ⟨a7, ha7⟩ : ∃ a, nums.getD (8 * i + 7) 0 = a := ⟨_, rfl⟩
        have c0 : wr.cell? ⟨g, 8 * i, none⟩ = some (.int .i64 a0) := by have := hcell 0 (by omega); rwa [Nat.add_zero, ha0] at this
        have c1 := hcell 1 (by omega)
        rw [ha1] at c1
        have c2 := hcell 2 (by omega)
        rw [ha2] at c2
        have c3 := hcell 3 (by omega)
        rw [ha3] at c3
        have c4 := hcell 4 (by omega)
        rw [ha4] at c4
        have c5 := hcell 5 (by omega)
        rw [ha5] at c5
        have c6 := hcell 6 (by omega)
        rw [ha6] at c6
        have c7 := hcell 7 (by omega)
        rw [ha7] at c7
        rw [ha0, ha1, ha2, ha3, ha4, ha5, ha6, ha7] at hst
        have cl : g < wr.heap.size := World.block_lt_of_cell? wr _ c0
        obtain ⟨Q, hQ⟩ : ∃ Q, decide (a7 = 0 ∨ a7 = 1) = Q := ⟨_, rfl⟩
        have HEV := Lib.hid (event_any a0 a1 a2 a3 a4 a5 a6 a7 Q hQ)
        rw [hQ] at hst
        unfold evOfRow EvV.agg at HEV
        obtain ⟨O, hO⟩ : ∃ O, decide (a7 = 1) = O := ⟨_, rfl⟩
        simp only [hO] at hst HEV
        have HST := Lib.hid hst
        have HCL := Lib.hid cl
        have harr : ∀ wx, (Instr.arrayAt 59 (.slice (some ⟨g, 8 * i, none⟩) 8 R)).run Try.prog wx = .ok (.pointer (some ⟨g, 8 * i, none⟩)) wx := fun wx => run_arrayAt wx _ 3 8 _ _ _ rowU (by omega)
        clear hst hd8 hcell hQ hO ha0 ha1 ha2 ha3 ha4 ha5 ha6 ha7
        go_wp2_with fail
        refine (HEV.out _).mono ?_
        rintro r w3 ⟨rfl, hb3⟩
        have HO := Lib.hid (own_below HO.out hb3)
        have HN := Lib.hid (HN.out.later hb3)
        have HB := Lib.hid (HB.out.trans (hb3.mono HB.out.size))
        have HCL := Lib.hid (Nat.lt_of_lt_of_le HCL.out hb3.size)
        obtain ⟨V1, hV1⟩ : ∃ V1, V1 = w3.alloc (Obj.cells #[.int .i64 a0, .int .i64 a1, .int .i64 a2, .int .i64 a3, .int .i64 a4, .int .i64 a5, .int .i64 a6, .bool O] 48) := ⟨_, rfl⟩
        have KE : Blk V1 w3.heap.size 48 #[.int .i64 a0, .int .i64 a1, .int .i64 a2, .int .i64 a3, .int .i64 a4, .int .i64 a5, .int .i64 a6, .bool O] := by rw [hV1]; exact Blk.made _ _ _
        have hbv : Below w3.heap.size w3 V1 := by rw [hV1]; exact bel_alloc (Below.refl _ _) _
        have HO := Lib.hid (own_below HO.out hbv)
        have HN := Lib.hid (HN.out.later hbv)
        have HB := Lib.hid (HB.out.trans (hbv.mono HB.out.size))
        have HCL := Lib.hid (Nat.lt_of_lt_of_le HCL.out hbv.size)
        clear hb3 hbv c0 c1 c2 c3 c4 c5 c6 c7 cl HEV harr
        cases Q with
        | false =>
          have HP2 : Hid (trParse bs = none) := Lib.hid (by rw [HP.out]; exact HST.out.2 rfl)
          go_wp2_with fail
          rw [← hV1]
          refine bodyPost_ret (v := .tuple #[.slice none 0 0, .int .i64 3]) (by simp [results, Try.results10, go_sem]) rfl ?_
          exact ParsePost.none HP2.out HB.out
        | true =>
          have HRD2 := Lib.hid (HST.out.1 rfl)
          have k0 : V1.cell? ⟨w3.heap.size, 0, none⟩ = some (.int .i64 a0) := KE.cell 0
          have k1 : V1.cell? ⟨w3.heap.size, 1, none⟩ = some (.int .i64 a1) := KE.cell 1
          have k2 : V1.cell? ⟨w3.heap.size, 2, none⟩ = some (.int .i64 a2) := KE.cell 2
          have k3 : V1.cell? ⟨w3.heap.size, 3, none⟩ = some (.int .i64 a3) := KE.cell 3
          have k4 : V1.cell? ⟨w3.heap.size, 4, none⟩ = some (.int .i64 a4) := KE.cell 4
          have k5 : V1.cell? ⟨w3.heap.size, 5, none⟩ = some (.int .i64 a5) := KE.cell 5
          have k6 : V1.cell? ⟨w3.heap.size, 6, none⟩ = some (.int .i64 a6) := KE.cell 6
          have k7 : V1.cell? ⟨w3.heap.size, 7, none⟩ = some (.bool O) := KE.cell 7
          obtain ⟨V2, hV2⟩ : ∃ V2, V2 = V1.alloc (Obj.cells #[.int .i64 a0, .int .i64 a1, .int .i64 a2, .int .i64 a3, .int .i64 a4, .int .i64 a5, .int .i64 a6, .bool O] 48) := ⟨_, rfl⟩
          have hbv : Below V1.heap.size V1 V2 := by rw [hV2]; exact bel_alloc (Below.refl _ _) _
          have HNW : Hid (∀ q u, ([.int .i64 a0, .int .i64 a1, .int .i64 a2, .int .i64 a3, .int .i64 a4, .int .i64 a5, .int .i64 a6, .bool O] : List Value)[q]? = some u → V2.cell? ((⟨w3.heap.size + 1, 0, none⟩ : Addr).add q) = some u) := Lib.hid (by
            intro q u hu
            have hs1 : w3.heap.size + 1 = V1.heap.size := by rw [hV1]; simp [go_sem]
            rw [addr_add, Nat.zero_add, hs1, hV2, (Blk.made V1 _ _).cell]
            simpa using hu)
          have HO := Lib.hid (own_below HO.out hbv)
          have HN := Lib.hid (HN.out.later hbv)
          have HB := Lib.hid (HB.out.trans (hbv.mono HB.out.size))
          have HCL := Lib.hid (Nat.lt_of_lt_of_le HCL.out hbv.size)
          have HV1 := Lib.hid hV1
          have HV2 := Lib.hid hV2
          have hiK2 : i < 100000 := by omega
          have hR8e : R = 8 ∨ R ≠ 8 := by omega
          clear hV1 hV2 hbv KE
          go_wp2_with (at_builtin; rw [← HV1.out, ← HV2.out]; refine wpList_append_own_at V2 rfl (.tmp 62) (.tmp 64) _ rfl w.heap.size 48 i0 _ 8 64 Try.underlying22 hi0 hz0 hz1 hz2 rfl (by omega) _ i _ rfl HO.out ⟨w3.heap.size + 1, 0, none⟩ 1 1 [.int .i64 a0, .int .i64 a1, .int .i64 a2, .int .i64 a3, .int .i64 a4, .int .i64 a5, .int .i64 a6, .bool O] rfl rfl HNW.out (by simp [Value.oneCell']) (by unfold maxLen; omega) (by omega) HB.out.size ?_; intro v6 w6 hown hg _ hwh)
          have HO6 : Hid (w6.ownsRow w.heap.size 48 8 v6 (i + 1) (evV (ls ++ [⟨a0, a1, a2, a3, a4, a5, a6, O⟩]))) := Lib.hid (by rw [evV_snoc]; exact hown)
          have HR2 : Hid (0 < L → v6.ownBlock ≠ some g) := Lib.hid (fun h0 => by
            have h2 := HCL.out
            rcases hwh with h | h
            · rw [h]; exact HNG.out h0
            · rw [h]; intro e; injection e with e; omega)
          have HN6 := Lib.hid (HN.out.kept hg (HNG.out (by have := HK.out; omega)))
          have HB6 := Lib.hid (below_gb HB.out hg HB.out.size (fun q hq => (HO.out.lt q hq).1))
          clear hown hg hwh HV1 HV2 HNW HO HNG HN HB HCL k0 k1 k2 k3 k4 k5 k6 k7 HST HRD
          go_roundw
          case rel =>
            rcases hR8e with e | e
            · exact ⟨i + 1, 0, 8 * i, _, by rw [if_pos e, e], by omega, fun h => by have := HK.out; omega, HRD2, _, rfl, HO6, HN6, HR2, HB6⟩
            · exact ⟨i + 1, R - 8, 8 * i + 8, _, by rw [if_neg e], by omega, fun _ => by omega, HRD2, _, rfl, HO6, HN6, HR2, HB6⟩
          case measure => simp only [sLen]; omega
      · have hiK : i = K := by have := HK.out; omega
        have HD := Lib.hid (HRD.out.done (by rw [HL.out]; omega))
        have HIN := Lib.hid (evRows_in nums ls HN.out.rng HD.out)
        have HLS := Lib.hid HRD.out.1
        obtain ⟨vv, hvv⟩ : ∃ v, v = u8 := ⟨_, rfl⟩
        rw [← hvv] at HO HNG ⊢
        have hfin : ∀ q c, vv = .slice q i c → ParsePost w bs (.returned (.tuple #[.slice q i c, .int .i64 0])) wr := fun q c hv => by
          have ho := HO.out
          rw [hv] at ho
          refine ⟨ls, q, c, 0, (fun h => by rw [HP.out, HD.out] at h; cases h), (fun x hx => by rw [HP.out, HD.out] at hx; injection hx with hx; exact ⟨hx, rfl⟩), ?_, by rw [HLS.out], ⟨Evs.of_own ho, HIN.out.1⟩, HB.out⟩
          have := HIN.out.2
          rw [HL.out] at this
          have := HBL.out
          omega
        have HFIN := Lib.hid hfin
        have hform : ∃ q c, vv = .slice q i c := by
          rcases HO.out.2 with ⟨h1, h2⟩ | ⟨gg, cp, cur, h1, _⟩
          · exact ⟨none, 0, by rw [h1, h2]⟩
          · exact ⟨_, cp, h1⟩
        obtain ⟨q8, c8, hq8⟩ := hform
        clear hfin HO HNG HN hoff hvv
        subst hq8
        go_wp2_with fail
        refine bodyPost_ret (v := .tuple #[.slice q8 i c8, .int .i64 0]) (by simp [results, Try.results10, go_sem]) rfl ?_
        exact HFIN.out _ _ rfl
end Go.Proofs.Ytbfbfpjfmdannaa
