/-
  SPEC: what does not commute is seen.
-/
import Derived.Test.YthbpoagkfpalfaaRows
import Derived.ProofKit
import Derived.Deep.QuietTactic
import Derived.BigQuiet
import Derived.LoopTactic
import Derived.Test.YthbpoagkfpalfaaSpecW
import Derived.Test.YthbpoagkfpalfaaAfter
namespace Go.Proofs.Ythbpoagkfpalfaa
open Go.ChangeShapes Go.WideShapes Go.ChangeAt Go.RowKit

/-- is it told apart which of two was first? -/
def dif (c : ContV) (a b : OpV) : Prop := (doC c a).2.2 ≠ (doC (doC c b).1 a).2.2 ∨ (doC (doC c a).1 b).2.2 ≠ (doC c b).2.2
theorem e_put (key v : Int) : doC ⟨1, [], []⟩ ⟨2, 0, key, v⟩ = (⟨1, [key], [v]⟩, 0, true) := by
  simp [doC, kindOf, rightC, putC, isP, lbP]
theorem e_put2 (key v x : Int) : doC ⟨1, [key], [x]⟩ ⟨2, 0, key, v⟩ = (⟨1, [key], [x]⟩, 0, false) := by
  simp [doC, kindOf, rightC, putC, isP, lbP]
theorem e_get (key v : Int) : doC ⟨1, [], []⟩ ⟨1, 0, key, v⟩ = (⟨1, [], []⟩, 0, false) := by
  simp [doC, kindOf, rightC, getC, isP, lbP]
theorem e_get2 (key v x : Int) : doC ⟨1, [key], [x]⟩ ⟨1, 0, key, v⟩ = (⟨1, [key], [x]⟩, x, true) := by
  simp [doC, kindOf, rightC, getC, isP, lbP]
theorem e_del (key v : Int) : doC ⟨1, [], []⟩ ⟨3, 0, key, v⟩ = (⟨1, [], []⟩, 0, false) := by
  simp [doC, kindOf, rightC, delC, isP, lbP]
theorem e_del2 (key v x : Int) : doC ⟨1, [key], [x]⟩ ⟨3, 0, key, v⟩ = (⟨1, [], []⟩, 0, true) := by
  simp [doC, kindOf, rightC, delC, isP, lbP]
theorem seen_pure (key a b x k1 k2 : Int) (h1 : 1 ≤ k1 ∧ k1 ≤ 3) (h2 : 1 ≤ k2 ∧ k2 ≤ 3) (h : ¬ (k1 = 1 ∧ k2 = 1)) : dif ⟨1, [], []⟩ ⟨k1, 0, key, a⟩ ⟨k2, 0, key, b⟩ ∨ dif ⟨1, [key], [x]⟩ ⟨k1, 0, key, a⟩ ⟨k2, 0, key, b⟩ := by
  rcases (show k1 = 1 ∨ k1 = 2 ∨ k1 = 3 by omega) with rfl | rfl | rfl <;> rcases (show k2 = 1 ∨ k2 = 2 ∨ k2 = 3 by omega) with rfl | rfl | rfl <;> simp_all [dif, e_put, e_put2, e_get, e_get2, e_del, e_del2]
theorem comm_key (key a b k1 k2 : Int) (h1 : 1 ≤ k1 ∧ k1 ≤ 3) (h2 : 1 ≤ k2 ∧ k2 ≤ 3) : comm ⟨k1, 0, key, a⟩ ⟨k2, 0, key, b⟩ = (decide (k1 = 1 ∧ k2 = 1)) := by
  rcases (show k1 = 1 ∨ k1 = 2 ∨ k1 = 3 by omega) with rfl | rfl | rfl <;> rcases (show k2 = 1 ∨ k2 = 2 ∨ k2 = 3 by omega) with rfl | rfl | rfl <;> simp [comm, kindOf]
theorem put_new (key v : Int) (w : World) : Calls Try.prog 11 #[.agg #[.int .i64 1, .slice none 0 0, .slice none 0 0], .agg #[.int .i64 2, .int .i64 0, .int .i64 key, .int .i64 v]] w fun e w' => ∃ kp kc vp vc,
    e = .returned (.tuple #[.agg #[.int .i64 1, .slice kp 1 kc, .slice vp 1 vc], .int .i64 0, .bool true]) ∧ Nums w' kp kc [key] ∧ Nums w' vp vc [v] ∧ (∀ b off, kp = some ⟨b, off, none⟩ → w.heap.size ≤ b) ∧ (∀ b off, vp = some ⟨b, off, none⟩ → w.heap.size ≤ b) ∧ Below w.heap.size w w' := by
  refine (do_any ⟨1, [], []⟩ ⟨2, 0, key, v⟩ 0 0 rfl rfl none none 0 0 w (Nums.nix _) (Nums.nix _) (by omega) (by omega)).mono fun e w' h => ?_
  rw [e_put] at h
  obtain ⟨kp, kc, vp, vc, h5, h6, h7, h8, h9, h10⟩ := h.at 1 1 1 0 true rfl rfl rfl rfl rfl
  refine ⟨kp, kc, vp, vc, h5, h6, h7, ?_, ?_, h8⟩
  · rcases h9 with ⟨_, h9⟩ | h9
    · cases h9
    · exact h9
  · rcases h10 with ⟨_, h10⟩ | h10
    · cases h10
    · exact h10
theorem all_pair (ks vs : List Int) (a b : OpV) : ∃ xs ys xs2 ys2 t1 t2 u1 u2 i1 i2 j1 j2, allC ⟨1, ks, vs⟩ [a, b] = (⟨1, xs, ys⟩, [t1, t2], [i1, i2]) ∧ allC ⟨1, ks, vs⟩ [b, a] = (⟨1, xs2, ys2⟩, [u1, u2], [j1, j2]) ∧
    xs.length ≤ ks.length + 2 ∧ ys.length ≤ vs.length + 2 ∧ xs2.length ≤ ks.length + 2 ∧ ys2.length ≤ vs.length + 2 ∧ (dif ⟨1, ks, vs⟩ a b → i1 = j2 → i2 = j1 → False) := by
  have s1 := doC_len ⟨1, ks, vs⟩ a
  have s2 := doC_len (doC ⟨1, ks, vs⟩ a).1 b
  have s3 := doC_len ⟨1, ks, vs⟩ b
  have s4 := doC_len (doC ⟨1, ks, vs⟩ b).1 a
  have g1 : (doC (doC ⟨1, ks, vs⟩ a).1 b).1.kind = 1 := (doC_kind _ _).trans (doC_kind _ _)
  have g2 : (doC (doC ⟨1, ks, vs⟩ b).1 a).1.kind = 1 := (doC_kind _ _).trans (doC_kind _ _)
  dsimp only at s1 s3
  have e : ∀ c : ContV, c.kind = 1 → c = ⟨1, c.keys, c.vals⟩ := fun c h => by cases c; dsimp only at h; subst h; rfl
  refine ⟨(doC (doC ⟨1, ks, vs⟩ a).1 b).1.keys, (doC (doC ⟨1, ks, vs⟩ a).1 b).1.vals, (doC (doC ⟨1, ks, vs⟩ b).1 a).1.keys, (doC (doC ⟨1, ks, vs⟩ b).1 a).1.vals, (doC ⟨1, ks, vs⟩ a).2.1, (doC (doC ⟨1, ks, vs⟩ a).1 b).2.1, (doC ⟨1, ks, vs⟩ b).2.1, (doC (doC ⟨1, ks, vs⟩ b).1 a).2.1, (doC ⟨1, ks, vs⟩ a).2.2, (doC (doC ⟨1, ks, vs⟩ a).1 b).2.2, (doC ⟨1, ks, vs⟩ b).2.2, (doC (doC ⟨1, ks, vs⟩ b).1 a).2.2, ?_, ?_, by omega, by omega, by omega, by omega, ?_⟩
  · exact Prod.ext (e _ g1) rfl
  · exact Prod.ext (e _ g2) rfl
  · intro h e1 e2
    rcases h with h | h
    · exact h e1
    · exact h e2
set_option maxRecDepth 100000 in
set_option maxHeartbeats 8000000 in
theorem walkSpecSeen (key a b i k : Int) (w : World) (_hkey : 0 ≤ key ∧ key ≤ 65535) (_ha : 0 ≤ a ∧ a ≤ 4294967295) (_hb : 0 ≤ b ∧ b ≤ 4294967295) (_hi : 0 ≤ i ∧ i ≤ 255) (_hk : 0 ≤ k ∧ k ≤ 255) : Calls Try.prog 5 #[.int .u16 key, .int .u32 a, .int .u32 b, .int .u8 i, .int .u8 k] w fun e w' => e = .returned (.bool true) ∧ Below w.heap.size w w' := by
  have r1 : 1 ≤ 1 + i % 3 ∧ 1 + i % 3 ≤ 3 := by omega
  have r2 : 1 ≤ 1 + k % 3 ∧ 1 + k % 3 ≤ 3 := by omega
  go_enter Try.func5, Try.ntmps5
  go_wp2_with fail
  refine (awake_any _).mono ?_
  rintro e w1 ⟨rfl, hB⟩
  go_wp2_with fail
  generalize 1 + i % 3 = k1 at r1 ⊢
  generalize 1 + k % 3 = k2 at r2 ⊢
  obtain ⟨V1, hV⟩ : ∃ V, V = (w1.alloc (Obj.cells #[.int .i64 k1, .int .i64 0, .int .i64 key, .int .i64 a] 26)).alloc (Obj.cells #[.int .i64 k2, .int .i64 0, .int .i64 key, .int .i64 b] 26) := ⟨_, rfl⟩
  rw [← hV]
  have KA : Blk V1 w1.heap.size 26 #[.int .i64 k1, .int .i64 0, .int .i64 key, .int .i64 a] := by rw [hV]; exact (Blk.made w1 _ _).alloc _
  have KB : Blk V1 (w1.heap.size + 1) 26 #[.int .i64 k2, .int .i64 0, .int .i64 key, .int .i64 b] := by rw [hV]; exact Blk.made1 w1 _ _ _
  have hbv : Below w1.heap.size w1 V1 := by rw [hV]; exact below_alloc2 w1 _ _
  replace hB := hB.trans (hbv.mono hB.size)
  clear hbv hV
  have hcm := comm_key key a b k1 k2 r1 r2
  by_cases hc : k1 = 1 ∧ k2 = 1
  case pos =>
    rw [decide_eq_true hc] at hcm
    obtain ⟨rfl, rfl⟩ := hc
    refine (comm_at ⟨1, 0, key, a⟩ ⟨1, 0, key, b⟩ true hcm _).mono ?_
    rintro e w3 ⟨rfl, hb⟩
    replace KA := KA.later hb
    replace KB := KB.later hb
    replace hB := hB.trans (hb.mono hB.size)
    clear hb
    have x0 : World.cell? _ ⟨w1.heap.size, 0, none⟩ = some (.int .i64 1) := KA.cell 0
    have x1 : World.cell? _ ⟨w1.heap.size, 1, none⟩ = some (.int .i64 0) := KA.cell 1
    have x2 : World.cell? _ ⟨w1.heap.size, 2, none⟩ = some (.int .i64 key) := KA.cell 2
    have x3 : World.cell? _ ⟨w1.heap.size, 3, none⟩ = some (.int .i64 a) := KA.cell 3
    have xl := KA.lt
    have y0 : World.cell? _ ⟨w1.heap.size + 1, 0, none⟩ = some (.int .i64 1) := KB.cell 0
    have y1 : World.cell? _ ⟨w1.heap.size + 1, 1, none⟩ = some (.int .i64 0) := KB.cell 1
    have y2 : World.cell? _ ⟨w1.heap.size + 1, 2, none⟩ = some (.int .i64 key) := KB.cell 2
    have y3 : World.cell? _ ⟨w1.heap.size + 1, 3, none⟩ = some (.int .i64 b) := KB.cell 3
    have yl := KB.lt
    have HKA := Lib.hid KA
    have HKB := Lib.hid KB
    have HhB := Lib.hid hB
    clear KA KB hB
    go_wp2_with fail
    clear x0 x1 x2 x3 xl y0 y1 y2 y3 yl
    have KA := HKA.out
    have KB := HKB.out
    have hB := HhB.out
    clear HKA HKB HhB
    go_ret
    exact ⟨rfl, hB⟩
  case neg =>
    rw [decide_eq_false hc] at hcm
    refine (comm_at ⟨k1, 0, key, a⟩ ⟨k2, 0, key, b⟩ false hcm _).mono ?_
    rintro e w3 ⟨rfl, hb⟩
    replace KA := KA.later hb
    replace KB := KB.later hb
    replace hB := hB.trans (hb.mono hB.size)
    clear hb
    have HP := Lib.hid (seen_pure key a b (1 + a) k1 k2 r1 r2 hc)
    clear hcm hc
    have HKA := Lib.hid KA
    have HKB := Lib.hid KB
    have HhB := Lib.hid hB
    clear KA KB hB
    go_wp2_with fail
    go_loopw [14, 15] (fun s n wr => ∃ (m : Nat) (sb : Bool), n = .int .i64 m ∧ s = .bool sb ∧ m ≤ 2 ∧ Hid ((1 ≤ m → dif ⟨1, [], []⟩ ⟨k1, 0, key, a⟩ ⟨k2, 0, key, b⟩ → sb = true) ∧ (2 ≤ m → dif ⟨1, [key], [1 + a]⟩ ⟨k1, 0, key, a⟩ ⟨k2, 0, key, b⟩ → sb = true)) ∧ ∃ W', W' = wr ∧ Below w3.heap.size w3 W') (fun _ n _ => 2 - (intOf n).toNat)
    case atStart => exact ⟨0, false, rfl, rfl, by omega, Lib.hid ⟨fun h => by omega, fun h => by omega⟩, w3, rfl, Below.refl _ _⟩
    case round =>
      obtain ⟨m, sb, rfl, rfl, hm2, HD, wr, rfl, hL⟩ := hrel
      have KA := HKA.out.later hL
      have KB := HKB.out.later hL
      have hB := HhB.out.trans (hL.mono HhB.out.size)
      clear HKA HKB HhB
      have hr : Below wr.heap.size wr wr := Below.refl _ _
      have KAr := KA
      have KBr := KB
      by_cases hlt : m < 2
      case pos =>
        rcases (show m = 0 ∨ m = 1 by omega) with rfl | rfl
        case inl =>
          have HKAr := Lib.hid KAr
          have HKBr := Lib.hid KBr
          have HB0 := Lib.hid hB
          have HL0 := Lib.hid hL
          clear KAr KBr
          have HKA := Lib.hid KA
          have HKB := Lib.hid KB
          have HhB := Lib.hid hB
          have HhL := Lib.hid hL
          have Hhr := Lib.hid hr
          clear KA KB hB hL hr
          go_wp2_with fail
          have KA := HKA.out
          have KB := HKB.out
          have hB := HhB.out
          have hL := HhL.out
          have hr := Hhr.out
          clear HKA HKB HhB HhL Hhr
          refine (new_any 1 _).mono ?_
          rintro e w11 ⟨rfl, hb⟩
          replace KA := KA.later hb
          replace KB := KB.later hb
          replace hB := hB.trans (hb.mono hB.size)
          replace hL := hL.trans (hb.mono hL.size)
          replace hr := hr.trans (hb.mono hr.size)
          clear hb
          have hrs := hr.size
          have ya0 : World.cell? _ ⟨w1.heap.size, 0, none⟩ = some (.int .i64 k1) := KA.cell 0
          have ya1 : World.cell? _ ⟨w1.heap.size, 1, none⟩ = some (.int .i64 0) := KA.cell 1
          have ya2 : World.cell? _ ⟨w1.heap.size, 2, none⟩ = some (.int .i64 key) := KA.cell 2
          have ya3 : World.cell? _ ⟨w1.heap.size, 3, none⟩ = some (.int .i64 a) := KA.cell 3
          have yal := KA.lt
          have yb0 : World.cell? _ ⟨w1.heap.size + 1, 0, none⟩ = some (.int .i64 k2) := KB.cell 0
          have yb1 : World.cell? _ ⟨w1.heap.size + 1, 1, none⟩ = some (.int .i64 0) := KB.cell 1
          have yb2 : World.cell? _ ⟨w1.heap.size + 1, 2, none⟩ = some (.int .i64 key) := KB.cell 2
          have yb3 : World.cell? _ ⟨w1.heap.size + 1, 3, none⟩ = some (.int .i64 b) := KB.cell 3
          have ybl := KB.lt
          obtain ⟨V11, hV⟩ : ∃ V, V = w11.alloc (Obj.cells #[.int .i64 1, .slice none 0 0, .slice none 0 0] 24) := ⟨_, rfl⟩
          have KC : Blk V11 w11.heap.size 24 #[.int .i64 1, .slice none 0 0, .slice none 0 0] := by rw [hV]; exact Blk.made _ _ _
          have hbv : Below w11.heap.size w11 V11 := by rw [hV]; exact below_alloc1 _ _
          replace KA := KA.later hbv
          replace KB := KB.later hbv
          replace hB := hB.trans (hbv.mono hB.size)
          replace hL := hL.trans (hbv.mono hL.size)
          replace hr := hr.trans (hbv.mono hr.size)
          clear hbv
          have HV := Lib.hid hV
          clear hV
          obtain ⟨xs, ys, xs2, ys2, t1, t2, u1, u2, i1, i2, j1, j2, hd1, hd2, q1, q2, q3, q4, hdif⟩ := all_pair [] [] ⟨k1, 0, key, a⟩ ⟨k2, 0, key, b⟩
          obtain ⟨n1, hn1⟩ : ∃ n, xs.length = n := ⟨_, rfl⟩
          obtain ⟨n2, hn2⟩ : ∃ n, ys.length = n := ⟨_, rfl⟩
          obtain ⟨n3, hn3⟩ : ∃ n, xs2.length = n := ⟨_, rfl⟩
          obtain ⟨n4, hn4⟩ : ∃ n, ys2.length = n := ⟨_, rfl⟩
          simp only [List.length_nil, List.length_cons, hn1, hn2, hn3, hn4] at q1 q2 q3 q4
          have HDF := Lib.hid hdif
          clear hdif
          obtain ⟨V12, hV⟩ : ∃ V, V = V11.alloc (Obj.cells #[.int .i64 k1, .int .i64 0, .int .i64 key, .int .i64 a, .int .i64 k2, .int .i64 0, .int .i64 key, .int .i64 b] 26) := ⟨_, rfl⟩
          have hod : Ods V12 (some ⟨V11.heap.size, 0, none⟩) [⟨k1, 0, key, a⟩, ⟨k2, 0, key, b⟩] := Ods.of_blk (t := 26) (cs := #[.int .i64 k1, .int .i64 0, .int .i64 key, .int .i64 a, .int .i64 k2, .int .i64 0, .int .i64 key, .int .i64 b]) (by rw [hV]; exact Blk.made _ _ _) rfl
          have hbv : Below V11.heap.size V11 V12 := by rw [hV]; exact below_alloc1 _ _
          replace KA := KA.later hbv
          replace KB := KB.later hbv
          replace KC := KC.later hbv
          replace hB := hB.trans (hbv.mono hB.size)
          replace hL := hL.trans (hbv.mono hL.size)
          replace hr := hr.trans (hbv.mono hr.size)
          clear hbv
          rw [show V11.heap.size = w11.heap.size + 1 from by rw [HV.out]; simp] at hod
          have HU := Lib.hid hV
          clear hV
          have HKA := Lib.hid KA
          have HKB := Lib.hid KB
          have HKC := Lib.hid KC
          have Hhod := Lib.hid hod
          have HhB := Lib.hid hB
          have HhL := Lib.hid hL
          have Hhr := Lib.hid hr
          clear KA KB KC hod hB hL hr
          go_wp2_with fail
          clear ya0 ya1 ya2 ya3 yal yb0 yb1 yb2 yb3 ybl
          have KA := HKA.out
          have KB := HKB.out
          have KC := HKC.out
          have hod := Hhod.out
          have hB := HhB.out
          have hL := HhL.out
          have hr := Hhr.out
          clear HKA HKB HKC Hhod HhB HhL Hhr
          rw [← HV.out]
          clear HV
          rw [← HU.out]
          clear HU
          refine (all_at ⟨1, [], []⟩ [⟨k1, 0, key, a⟩, ⟨k2, 0, key, b⟩] 2 rfl _ _ _ _ _ hd1 0 0 rfl rfl _ _ _ _ _ _ _ (Nums.nix _) (Nums.nix _) hod (by omega) (by omega) (by omega) n1 n2 hn1 hn2).mono ?_
          rintro e w13 ⟨kp1, kc1, vp1, vc1, ga1, gb1, rfl, P1, Q1, T1, B1, hb⟩
          replace KA := KA.later hb
          replace KB := KB.later hb
          replace KC := KC.later hb
          replace hod := hod.later hb
          replace hB := hB.trans (hb.mono hB.size)
          replace hL := hL.trans (hb.mono hL.size)
          replace hr := hr.trans (hb.mono hr.size)
          clear hb
          clear hod
          have z0 : World.cell? _ ⟨w11.heap.size, 0, none⟩ = some (.int .i64 1) := KC.cell 0
          have z1 : World.cell? _ ⟨w11.heap.size, 1, none⟩ = some (.slice none 0 0) := KC.cell 1
          have z2 : World.cell? _ ⟨w11.heap.size, 2, none⟩ = some (.slice none 0 0) := KC.cell 2
          have zl := KC.lt
          have ya0 : World.cell? _ ⟨w1.heap.size, 0, none⟩ = some (.int .i64 k1) := KA.cell 0
          have ya1 : World.cell? _ ⟨w1.heap.size, 1, none⟩ = some (.int .i64 0) := KA.cell 1
          have ya2 : World.cell? _ ⟨w1.heap.size, 2, none⟩ = some (.int .i64 key) := KA.cell 2
          have ya3 : World.cell? _ ⟨w1.heap.size, 3, none⟩ = some (.int .i64 a) := KA.cell 3
          have yal := KA.lt
          have yb0 : World.cell? _ ⟨w1.heap.size + 1, 0, none⟩ = some (.int .i64 k2) := KB.cell 0
          have yb1 : World.cell? _ ⟨w1.heap.size + 1, 1, none⟩ = some (.int .i64 0) := KB.cell 1
          have yb2 : World.cell? _ ⟨w1.heap.size + 1, 2, none⟩ = some (.int .i64 key) := KB.cell 2
          have yb3 : World.cell? _ ⟨w1.heap.size + 1, 3, none⟩ = some (.int .i64 b) := KB.cell 3
          have ybl := KB.lt
          obtain ⟨V13, hV⟩ : ∃ V, V = w13.alloc (Obj.cells #[.int .i64 1, .slice kp1 n1 kc1, .slice vp1 n2 vc1] 24) := ⟨_, rfl⟩
          have KX1 : Blk V13 w13.heap.size 24 #[.int .i64 1, .slice kp1 n1 kc1, .slice vp1 n2 vc1] := by rw [hV]; exact Blk.made _ _ _
          have hbv : Below w13.heap.size w13 V13 := by rw [hV]; exact below_alloc1 _ _
          replace KA := KA.later hbv
          replace KB := KB.later hbv
          replace KC := KC.later hbv
          replace P1 := P1.later hbv
          replace Q1 := Q1.later hbv
          replace T1 := T1.later hbv
          replace B1 := B1.later hbv
          replace hB := hB.trans (hbv.mono hB.size)
          replace hL := hL.trans (hbv.mono hL.size)
          replace hr := hr.trans (hbv.mono hr.size)
          clear hbv
          have HV := Lib.hid hV
          clear hV
          obtain ⟨V14, hV⟩ : ∃ V, V = V13.alloc (Obj.cells #[.int .i64 k2, .int .i64 0, .int .i64 key, .int .i64 b, .int .i64 k1, .int .i64 0, .int .i64 key, .int .i64 a] 26) := ⟨_, rfl⟩
          have hod : Ods V14 (some ⟨V13.heap.size, 0, none⟩) [⟨k2, 0, key, b⟩, ⟨k1, 0, key, a⟩] := Ods.of_blk (t := 26) (cs := #[.int .i64 k2, .int .i64 0, .int .i64 key, .int .i64 b, .int .i64 k1, .int .i64 0, .int .i64 key, .int .i64 a]) (by rw [hV]; exact Blk.made _ _ _) rfl
          have hbv : Below V13.heap.size V13 V14 := by rw [hV]; exact below_alloc1 _ _
          replace KA := KA.later hbv
          replace KB := KB.later hbv
          replace KC := KC.later hbv
          replace P1 := P1.later hbv
          replace Q1 := Q1.later hbv
          replace T1 := T1.later hbv
          replace B1 := B1.later hbv
          replace KX1 := KX1.later hbv
          replace hB := hB.trans (hbv.mono hB.size)
          replace hL := hL.trans (hbv.mono hL.size)
          replace hr := hr.trans (hbv.mono hr.size)
          clear hbv
          rw [show V13.heap.size = w13.heap.size + 1 from by rw [HV.out]; simp] at hod
          have HU := Lib.hid hV
          clear hV
          have HKA := Lib.hid KA
          have HKB := Lib.hid KB
          have HKC := Lib.hid KC
          have HP1 := Lib.hid P1
          have HQ1 := Lib.hid Q1
          have HT1 := Lib.hid T1
          have HB1 := Lib.hid B1
          have HKX1 := Lib.hid KX1
          have Hhod := Lib.hid hod
          have HhB := Lib.hid hB
          have HhL := Lib.hid hL
          have Hhr := Lib.hid hr
          clear KA KB KC P1 Q1 T1 B1 KX1 hod hB hL hr
          go_wp2_with fail
          clear z0 z1 z2 zl ya0 ya1 ya2 ya3 yal yb0 yb1 yb2 yb3 ybl
          have KA := HKA.out
          have KB := HKB.out
          have KC := HKC.out
          have P1 := HP1.out
          have Q1 := HQ1.out
          have T1 := HT1.out
          have B1 := HB1.out
          have KX1 := HKX1.out
          have hod := Hhod.out
          have hB := HhB.out
          have hL := HhL.out
          have hr := Hhr.out
          clear HKA HKB HKC HP1 HQ1 HT1 HB1 HKX1 Hhod HhB HhL Hhr
          rw [← HV.out]
          clear HV
          rw [← HU.out]
          clear HU
          refine (all_at ⟨1, [], []⟩ [⟨k2, 0, key, b⟩, ⟨k1, 0, key, a⟩] 2 rfl _ _ _ _ _ hd2 0 0 rfl rfl _ _ _ _ _ _ _ (Nums.nix _) (Nums.nix _) hod (by omega) (by omega) (by omega) n3 n4 hn3 hn4).mono ?_
          rintro e w15 ⟨kp2, kc2, vp2, vc2, ga2, gb2, rfl, P2, Q2, T2, B2, hb⟩
          replace KA := KA.later hb
          replace KB := KB.later hb
          replace KC := KC.later hb
          replace P1 := P1.later hb
          replace Q1 := Q1.later hb
          replace T1 := T1.later hb
          replace B1 := B1.later hb
          replace KX1 := KX1.later hb
          replace hod := hod.later hb
          replace hB := hB.trans (hb.mono hB.size)
          replace hL := hL.trans (hb.mono hL.size)
          replace hr := hr.trans (hb.mono hr.size)
          clear hb
          clear hod
          have z0 : World.cell? _ ⟨w13.heap.size, 0, none⟩ = some (.int .i64 1) := KX1.cell 0
          have z1 : World.cell? _ ⟨w13.heap.size, 1, none⟩ = some (.slice kp1 n1 kc1) := KX1.cell 1
          have z2 : World.cell? _ ⟨w13.heap.size, 2, none⟩ = some (.slice vp1 n2 vc1) := KX1.cell 2
          have zl := KX1.lt
          obtain ⟨V15, hV⟩ : ∃ V, V = w15.alloc (Obj.cells #[.int .i64 1, .slice kp2 n3 kc2, .slice vp2 n4 vc2] 24) := ⟨_, rfl⟩
          have KX2 : Blk V15 w15.heap.size 24 #[.int .i64 1, .slice kp2 n3 kc2, .slice vp2 n4 vc2] := by rw [hV]; exact Blk.made _ _ _
          have hbv : Below w15.heap.size w15 V15 := by rw [hV]; exact below_alloc1 _ _
          replace KA := KA.later hbv
          replace KB := KB.later hbv
          replace KC := KC.later hbv
          replace P1 := P1.later hbv
          replace Q1 := Q1.later hbv
          replace T1 := T1.later hbv
          replace B1 := B1.later hbv
          replace KX1 := KX1.later hbv
          replace P2 := P2.later hbv
          replace Q2 := Q2.later hbv
          replace T2 := T2.later hbv
          replace B2 := B2.later hbv
          replace hB := hB.trans (hbv.mono hB.size)
          replace hL := hL.trans (hbv.mono hL.size)
          replace hr := hr.trans (hbv.mono hr.size)
          clear hbv
          have HV := Lib.hid hV
          clear hV
          have HKA := Lib.hid KA
          have HKB := Lib.hid KB
          have HKC := Lib.hid KC
          have HP1 := Lib.hid P1
          have HQ1 := Lib.hid Q1
          have HT1 := Lib.hid T1
          have HB1 := Lib.hid B1
          have HKX1 := Lib.hid KX1
          have HP2 := Lib.hid P2
          have HQ2 := Lib.hid Q2
          have HT2 := Lib.hid T2
          have HB2 := Lib.hid B2
          have HKX2 := Lib.hid KX2
          have HhB := Lib.hid hB
          have HhL := Lib.hid hL
          have Hhr := Lib.hid hr
          clear KA KB KC P1 Q1 T1 B1 KX1 P2 Q2 T2 B2 KX2 hB hL hr
          go_wp2_with fail
          clear z0 z1 z2 zl
          have KA := HKA.out
          have KB := HKB.out
          have KC := HKC.out
          have P1 := HP1.out
          have Q1 := HQ1.out
          have T1 := HT1.out
          have B1 := HB1.out
          have KX1 := HKX1.out
          have P2 := HP2.out
          have Q2 := HQ2.out
          have T2 := HT2.out
          have B2 := HB2.out
          have KX2 := HKX2.out
          have hB := HhB.out
          have hL := HhL.out
          have hr := Hhr.out
          clear HKA HKB HKC HP1 HQ1 HT1 HB1 HKX1 HP2 HQ2 HT2 HB2 HKX2 HhB HhL Hhr
          rw [← HV.out]
          clear HV
          cases sb
          case false =>
            cases hxy : decide ((⟨1, xs, ys⟩ : ContV) = ⟨1, xs2, ys2⟩)
            case false =>
              have hcur : Below V15.heap.size V15 V15 := Below.refl _ _
              have x0 := fun (y : After V15) => (y.cell KX1.lt).trans (KX1.cell 0)
              have x0 : ∀ y : After V15, World.cell? y.w ⟨w13.heap.size, 0, none⟩ = some (.int .i64 1) := x0
              have x1 := fun (y : After V15) => (y.cell KX1.lt).trans (KX1.cell 1)
              have x1 : ∀ y : After V15, World.cell? y.w ⟨w13.heap.size, 1, none⟩ = some (.slice kp1 n1 kc1) := x1
              have x2 := fun (y : After V15) => (y.cell KX1.lt).trans (KX1.cell 2)
              have x2 : ∀ y : After V15, World.cell? y.w ⟨w13.heap.size, 2, none⟩ = some (.slice vp1 n2 vc1) := x2
              have z0 := fun (y : After V15) => (y.cell KX2.lt).trans (KX2.cell 0)
              have z0 : ∀ y : After V15, World.cell? y.w ⟨w15.heap.size, 0, none⟩ = some (.int .i64 1) := z0
              have z1 := fun (y : After V15) => (y.cell KX2.lt).trans (KX2.cell 1)
              have z1 : ∀ y : After V15, World.cell? y.w ⟨w15.heap.size, 1, none⟩ = some (.slice kp2 n3 kc2) := z1
              have z2 := fun (y : After V15) => (y.cell KX2.lt).trans (KX2.cell 2)
              have z2 : ∀ y : After V15, World.cell? y.w ⟨w15.heap.size, 2, none⟩ = some (.slice vp2 n4 vc2) := z2
              have c1 := fun (y : After V15) => (y.cell (T1.got 0 _ rfl).1).trans (T1.got 0 _ rfl).2
              have c2 := fun (y : After V15) => (y.cell (T1.got 1 _ rfl).1).trans (T1.got 1 _ rfl).2
              have c3 := fun (y : After V15) => (y.cell (T2.got 0 _ rfl).1).trans (T2.got 0 _ rfl).2
              have c4 := fun (y : After V15) => (y.cell (T2.got 1 _ rfl).1).trans (T2.got 1 _ rfl).2
              have c5 := fun (y : After V15) => (y.cell (B1.got 0 _ rfl).1).trans (B1.got 0 _ rfl).2
              have c6 := fun (y : After V15) => (y.cell (B1.got 1 _ rfl).1).trans (B1.got 1 _ rfl).2
              have c7 := fun (y : After V15) => (y.cell (B2.got 0 _ rfl).1).trans (B2.got 0 _ rfl).2
              have c8 := fun (y : After V15) => (y.cell (B2.got 1 _ rfl).1).trans (B2.got 1 _ rfl).2
              have HQ0 := Lib.hid fun (y : After V15) => same_at ⟨1, xs, ys⟩ ⟨1, xs2, ys2⟩ false hxy n1 n2 n3 n4 hn1 hn2 hn3 hn4 kp1 vp1 kp2 vp2 kc1 vc1 kc2 vc2 y.w (P1.later y.bel) (Q1.later y.bel) (P2.later y.bel) (Q2.later y.bel) (by omega) (by omega) (by omega) (by omega)
              clear hcur
              have HKA := Lib.hid KA
              have HKB := Lib.hid KB
              have HKC := Lib.hid KC
              have HP1 := Lib.hid P1
              have HQ1 := Lib.hid Q1
              have HT1 := Lib.hid T1
              have HB1 := Lib.hid B1
              have HKX1 := Lib.hid KX1
              have HP2 := Lib.hid P2
              have HQ2 := Lib.hid Q2
              have HT2 := Lib.hid T2
              have HB2 := Lib.hid B2
              have HKX2 := Lib.hid KX2
              have HhB := Lib.hid hB
              have HhL := Lib.hid hL
              have Hhr := Lib.hid hr
              clear KA KB KC P1 Q1 T1 B1 KX1 P2 Q2 T2 B2 KX2 hB hL hr
              go_wp2_with fail
              refine wp_region_after (by kernel_rfl) (by kernel_rfl) ?_
              repeat (go_big_quiet_step (first | (go_at_call 12; with_reducible exact calls_after (HQ0.out _))))
              refine wpQuiet_nil ?_
              rintro _ ⟨y, rfl⟩
              have KA := HKA.out
              have KB := HKB.out
              have KC := HKC.out
              have P1 := HP1.out
              have Q1 := HQ1.out
              have T1 := HT1.out
              have B1 := HB1.out
              have KX1 := HKX1.out
              have P2 := HP2.out
              have Q2 := HQ2.out
              have T2 := HT2.out
              have B2 := HB2.out
              have KX2 := HKX2.out
              have hB := HhB.out
              have hL := HhL.out
              have hr := Hhr.out
              clear HKA HKB HKC HP1 HQ1 HT1 HB1 HKX1 HP2 HQ2 HT2 HB2 HKX2 HhB HhL Hhr
              obtain ⟨w16, hX⟩ : ∃ X, X = y.w := ⟨_, rfl⟩
              have hb := y.bel
              rw [← hX] at hb
              rw [← hX]
              clear hX x0 x1 x2 z0 z1 z2 c1 c2 c3 c4 c5 c6 c7 c8 HQ0
              clear y
              replace KA := KA.later hb
              replace KB := KB.later hb
              replace KC := KC.later hb
              replace P1 := P1.later hb
              replace Q1 := Q1.later hb
              replace T1 := T1.later hb
              replace B1 := B1.later hb
              replace KX1 := KX1.later hb
              replace P2 := P2.later hb
              replace Q2 := Q2.later hb
              replace T2 := T2.later hb
              replace B2 := B2.later hb
              replace KX2 := KX2.later hb
              replace hB := hB.trans (hb.mono hB.size)
              replace hL := hL.trans (hb.mono hL.size)
              replace hr := hr.trans (hb.mono hr.size)
              clear hb
              have hDD := HD.out
              have HL1 := Lib.hid hL
              clear KA KB KC P1 Q1 T1 B1 KX1 P2 Q2 T2 B2 KX2 hB hL hr
              go_wp2_with fail
              go_roundw
              case rel => exact ⟨1, true, by simp, by simp, by omega, Lib.hid ⟨fun _ _ => rfl, fun _ _ => rfl⟩, _, rfl, HL1.out⟩
              case measure => simp [intOf]
            case true =>
              by_cases ha : t1 = u2
              case pos =>
                have dha : (t1 == u2) = true := by simp; exact ha
                have eha : (t1 != u2) = false := by simp; exact ha
                have Hha := Lib.hid ha
                clear ha
                by_cases hb : t2 = u1
                case pos =>
                  have dhb : (t2 == u1) = true := by simp; exact hb
                  have ehb : (t2 != u1) = false := by simp; exact hb
                  have Hhb := Lib.hid hb
                  clear hb
                  by_cases hc : i1 = j2
                  case pos =>
                    have dhc : (i1 == j2) = true := by simp; exact hc
                    have ehc : (i1 != j2) = false := by simp; exact hc
                    have Hhc := Lib.hid hc
                    clear hc
                    by_cases hd : i2 = j1
                    case pos =>
                      have dhd : (i2 == j1) = true := by simp; exact hd
                      have ehd : (i2 != j1) = false := by simp; exact hd
                      have Hhd := Lib.hid hd
                      clear hd
                      have hcur : Below V15.heap.size V15 V15 := Below.refl _ _
                      have x0 := fun (y : After V15) => (y.cell KX1.lt).trans (KX1.cell 0)
                      have x0 : ∀ y : After V15, World.cell? y.w ⟨w13.heap.size, 0, none⟩ = some (.int .i64 1) := x0
                      have x1 := fun (y : After V15) => (y.cell KX1.lt).trans (KX1.cell 1)
                      have x1 : ∀ y : After V15, World.cell? y.w ⟨w13.heap.size, 1, none⟩ = some (.slice kp1 n1 kc1) := x1
                      have x2 := fun (y : After V15) => (y.cell KX1.lt).trans (KX1.cell 2)
                      have x2 : ∀ y : After V15, World.cell? y.w ⟨w13.heap.size, 2, none⟩ = some (.slice vp1 n2 vc1) := x2
                      have z0 := fun (y : After V15) => (y.cell KX2.lt).trans (KX2.cell 0)
                      have z0 : ∀ y : After V15, World.cell? y.w ⟨w15.heap.size, 0, none⟩ = some (.int .i64 1) := z0
                      have z1 := fun (y : After V15) => (y.cell KX2.lt).trans (KX2.cell 1)
                      have z1 : ∀ y : After V15, World.cell? y.w ⟨w15.heap.size, 1, none⟩ = some (.slice kp2 n3 kc2) := z1
                      have z2 := fun (y : After V15) => (y.cell KX2.lt).trans (KX2.cell 2)
                      have z2 : ∀ y : After V15, World.cell? y.w ⟨w15.heap.size, 2, none⟩ = some (.slice vp2 n4 vc2) := z2
                      have c1 := fun (y : After V15) => (y.cell (T1.got 0 _ rfl).1).trans (T1.got 0 _ rfl).2
                      have c2 := fun (y : After V15) => (y.cell (T1.got 1 _ rfl).1).trans (T1.got 1 _ rfl).2
                      have c3 := fun (y : After V15) => (y.cell (T2.got 0 _ rfl).1).trans (T2.got 0 _ rfl).2
                      have c4 := fun (y : After V15) => (y.cell (T2.got 1 _ rfl).1).trans (T2.got 1 _ rfl).2
                      have c5 := fun (y : After V15) => (y.cell (B1.got 0 _ rfl).1).trans (B1.got 0 _ rfl).2
                      have c6 := fun (y : After V15) => (y.cell (B1.got 1 _ rfl).1).trans (B1.got 1 _ rfl).2
                      have c7 := fun (y : After V15) => (y.cell (B2.got 0 _ rfl).1).trans (B2.got 0 _ rfl).2
                      have c8 := fun (y : After V15) => (y.cell (B2.got 1 _ rfl).1).trans (B2.got 1 _ rfl).2
                      have HQ0 := Lib.hid fun (y : After V15) => same_at ⟨1, xs, ys⟩ ⟨1, xs2, ys2⟩ true hxy n1 n2 n3 n4 hn1 hn2 hn3 hn4 kp1 vp1 kp2 vp2 kc1 vc1 kc2 vc2 y.w (P1.later y.bel) (Q1.later y.bel) (P2.later y.bel) (Q2.later y.bel) (by omega) (by omega) (by omega) (by omega)
                      clear hcur
                      have HKA := Lib.hid KA
                      have HKB := Lib.hid KB
                      have HKC := Lib.hid KC
                      have HP1 := Lib.hid P1
                      have HQ1 := Lib.hid Q1
                      have HT1 := Lib.hid T1
                      have HB1 := Lib.hid B1
                      have HKX1 := Lib.hid KX1
                      have HP2 := Lib.hid P2
                      have HQ2 := Lib.hid Q2
                      have HT2 := Lib.hid T2
                      have HB2 := Lib.hid B2
                      have HKX2 := Lib.hid KX2
                      have HhB := Lib.hid hB
                      have HhL := Lib.hid hL
                      have Hhr := Lib.hid hr
                      clear KA KB KC P1 Q1 T1 B1 KX1 P2 Q2 T2 B2 KX2 hB hL hr
                      go_wp2_with fail
                      refine wp_region_after (by kernel_rfl) (by kernel_rfl) ?_
                      repeat (go_big_quiet_step (first | (go_at_call 12; with_reducible exact calls_after (HQ0.out _))))
                      refine wpQuiet_nil ?_
                      rintro _ ⟨y, rfl⟩
                      have KA := HKA.out
                      have KB := HKB.out
                      have KC := HKC.out
                      have P1 := HP1.out
                      have Q1 := HQ1.out
                      have T1 := HT1.out
                      have B1 := HB1.out
                      have KX1 := HKX1.out
                      have P2 := HP2.out
                      have Q2 := HQ2.out
                      have T2 := HT2.out
                      have B2 := HB2.out
                      have KX2 := HKX2.out
                      have hB := HhB.out
                      have hL := HhL.out
                      have hr := Hhr.out
                      clear HKA HKB HKC HP1 HQ1 HT1 HB1 HKX1 HP2 HQ2 HT2 HB2 HKX2 HhB HhL Hhr
                      obtain ⟨w16, hX⟩ : ∃ X, X = y.w := ⟨_, rfl⟩
                      have hb := y.bel
                      rw [← hX] at hb
                      rw [← hX]
                      clear hX x0 x1 x2 z0 z1 z2 c1 c2 c3 c4 c5 c6 c7 c8 HQ0
                      clear y
                      replace KA := KA.later hb
                      replace KB := KB.later hb
                      replace KC := KC.later hb
                      replace P1 := P1.later hb
                      replace Q1 := Q1.later hb
                      replace T1 := T1.later hb
                      replace B1 := B1.later hb
                      replace KX1 := KX1.later hb
                      replace P2 := P2.later hb
                      replace Q2 := Q2.later hb
                      replace T2 := T2.later hb
                      replace B2 := B2.later hb
                      replace KX2 := KX2.later hb
                      replace hB := hB.trans (hb.mono hB.size)
                      replace hL := hL.trans (hb.mono hL.size)
                      replace hr := hr.trans (hb.mono hr.size)
                      clear hb
                      have hDD := HD.out
                      have HL1 := Lib.hid hL
                      clear KA KB KC P1 Q1 T1 B1 KX1 P2 Q2 T2 B2 KX2 hB hL hr
                      go_wp2_with fail
                      go_roundw
                      case rel => exact ⟨1, false, by simp, by simp, by omega, Lib.hid ⟨fun _ hd => (HDF.out hd Hhc.out Hhd.out).elim, fun h => by omega⟩, _, rfl, HL1.out⟩
                      case measure => simp [intOf]
                    case neg =>
                      have dhd : (i2 == j1) = false := by simp; exact hd
                      have ehd : (i2 != j1) = true := by simp; exact hd
                      clear hd
                      have hcur : Below V15.heap.size V15 V15 := Below.refl _ _
                      have x0 := fun (y : After V15) => (y.cell KX1.lt).trans (KX1.cell 0)
                      have x0 : ∀ y : After V15, World.cell? y.w ⟨w13.heap.size, 0, none⟩ = some (.int .i64 1) := x0
                      have x1 := fun (y : After V15) => (y.cell KX1.lt).trans (KX1.cell 1)
                      have x1 : ∀ y : After V15, World.cell? y.w ⟨w13.heap.size, 1, none⟩ = some (.slice kp1 n1 kc1) := x1
                      have x2 := fun (y : After V15) => (y.cell KX1.lt).trans (KX1.cell 2)
                      have x2 : ∀ y : After V15, World.cell? y.w ⟨w13.heap.size, 2, none⟩ = some (.slice vp1 n2 vc1) := x2
                      have z0 := fun (y : After V15) => (y.cell KX2.lt).trans (KX2.cell 0)
                      have z0 : ∀ y : After V15, World.cell? y.w ⟨w15.heap.size, 0, none⟩ = some (.int .i64 1) := z0
                      have z1 := fun (y : After V15) => (y.cell KX2.lt).trans (KX2.cell 1)
                      have z1 : ∀ y : After V15, World.cell? y.w ⟨w15.heap.size, 1, none⟩ = some (.slice kp2 n3 kc2) := z1
                      have z2 := fun (y : After V15) => (y.cell KX2.lt).trans (KX2.cell 2)
                      have z2 : ∀ y : After V15, World.cell? y.w ⟨w15.heap.size, 2, none⟩ = some (.slice vp2 n4 vc2) := z2
                      have c1 := fun (y : After V15) => (y.cell (T1.got 0 _ rfl).1).trans (T1.got 0 _ rfl).2
                      have c2 := fun (y : After V15) => (y.cell (T1.got 1 _ rfl).1).trans (T1.got 1 _ rfl).2
                      have c3 := fun (y : After V15) => (y.cell (T2.got 0 _ rfl).1).trans (T2.got 0 _ rfl).2
                      have c4 := fun (y : After V15) => (y.cell (T2.got 1 _ rfl).1).trans (T2.got 1 _ rfl).2
                      have c5 := fun (y : After V15) => (y.cell (B1.got 0 _ rfl).1).trans (B1.got 0 _ rfl).2
                      have c6 := fun (y : After V15) => (y.cell (B1.got 1 _ rfl).1).trans (B1.got 1 _ rfl).2
                      have c7 := fun (y : After V15) => (y.cell (B2.got 0 _ rfl).1).trans (B2.got 0 _ rfl).2
                      have c8 := fun (y : After V15) => (y.cell (B2.got 1 _ rfl).1).trans (B2.got 1 _ rfl).2
                      have HQ0 := Lib.hid fun (y : After V15) => same_at ⟨1, xs, ys⟩ ⟨1, xs2, ys2⟩ true hxy n1 n2 n3 n4 hn1 hn2 hn3 hn4 kp1 vp1 kp2 vp2 kc1 vc1 kc2 vc2 y.w (P1.later y.bel) (Q1.later y.bel) (P2.later y.bel) (Q2.later y.bel) (by omega) (by omega) (by omega) (by omega)
                      clear hcur
                      have HKA := Lib.hid KA
                      have HKB := Lib.hid KB
                      have HKC := Lib.hid KC
                      have HP1 := Lib.hid P1
                      have HQ1 := Lib.hid Q1
                      have HT1 := Lib.hid T1
                      have HB1 := Lib.hid B1
                      have HKX1 := Lib.hid KX1
                      have HP2 := Lib.hid P2
                      have HQ2 := Lib.hid Q2
                      have HT2 := Lib.hid T2
                      have HB2 := Lib.hid B2
                      have HKX2 := Lib.hid KX2
                      have HhB := Lib.hid hB
                      have HhL := Lib.hid hL
                      have Hhr := Lib.hid hr
                      clear KA KB KC P1 Q1 T1 B1 KX1 P2 Q2 T2 B2 KX2 hB hL hr
                      go_wp2_with fail
                      refine wp_region_after (by kernel_rfl) (by kernel_rfl) ?_
                      repeat (go_big_quiet_step (first | (go_at_call 12; with_reducible exact calls_after (HQ0.out _))))
                      refine wpQuiet_nil ?_
                      rintro _ ⟨y, rfl⟩
                      have KA := HKA.out
                      have KB := HKB.out
                      have KC := HKC.out
                      have P1 := HP1.out
                      have Q1 := HQ1.out
                      have T1 := HT1.out
                      have B1 := HB1.out
                      have KX1 := HKX1.out
                      have P2 := HP2.out
                      have Q2 := HQ2.out
                      have T2 := HT2.out
                      have B2 := HB2.out
                      have KX2 := HKX2.out
                      have hB := HhB.out
                      have hL := HhL.out
                      have hr := Hhr.out
                      clear HKA HKB HKC HP1 HQ1 HT1 HB1 HKX1 HP2 HQ2 HT2 HB2 HKX2 HhB HhL Hhr
                      obtain ⟨w16, hX⟩ : ∃ X, X = y.w := ⟨_, rfl⟩
                      have hb := y.bel
                      rw [← hX] at hb
                      rw [← hX]
                      clear hX x0 x1 x2 z0 z1 z2 c1 c2 c3 c4 c5 c6 c7 c8 HQ0
                      clear y
                      replace KA := KA.later hb
                      replace KB := KB.later hb
                      replace KC := KC.later hb
                      replace P1 := P1.later hb
                      replace Q1 := Q1.later hb
                      replace T1 := T1.later hb
                      replace B1 := B1.later hb
                      replace KX1 := KX1.later hb
                      replace P2 := P2.later hb
                      replace Q2 := Q2.later hb
                      replace T2 := T2.later hb
                      replace B2 := B2.later hb
                      replace KX2 := KX2.later hb
                      replace hB := hB.trans (hb.mono hB.size)
                      replace hL := hL.trans (hb.mono hL.size)
                      replace hr := hr.trans (hb.mono hr.size)
                      clear hb
                      have hDD := HD.out
                      have HL1 := Lib.hid hL
                      clear KA KB KC P1 Q1 T1 B1 KX1 P2 Q2 T2 B2 KX2 hB hL hr
                      go_wp2_with fail
                      go_roundw
                      case rel => exact ⟨1, true, by simp, by simp, by omega, Lib.hid ⟨fun _ _ => rfl, fun _ _ => rfl⟩, _, rfl, HL1.out⟩
                      case measure => simp [intOf]
                  case neg =>
                    have dhc : (i1 == j2) = false := by simp; exact hc
                    have ehc : (i1 != j2) = true := by simp; exact hc
                    clear hc
                    have hcur : Below V15.heap.size V15 V15 := Below.refl _ _
                    have x0 := fun (y : After V15) => (y.cell KX1.lt).trans (KX1.cell 0)
                    have x0 : ∀ y : After V15, World.cell? y.w ⟨w13.heap.size, 0, none⟩ = some (.int .i64 1) := x0
                    have x1 := fun (y : After V15) => (y.cell KX1.lt).trans (KX1.cell 1)
                    have x1 : ∀ y : After V15, World.cell? y.w ⟨w13.heap.size, 1, none⟩ = some (.slice kp1 n1 kc1) := x1
                    have x2 := fun (y : After V15) => (y.cell KX1.lt).trans (KX1.cell 2)
                    have x2 : ∀ y : After V15, World.cell? y.w ⟨w13.heap.size, 2, none⟩ = some (.slice vp1 n2 vc1) := x2
                    have z0 := fun (y : After V15) => (y.cell KX2.lt).trans (KX2.cell 0)
                    have z0 : ∀ y : After V15, World.cell? y.w ⟨w15.heap.size, 0, none⟩ = some (.int .i64 1) := z0
                    have z1 := fun (y : After V15) => (y.cell KX2.lt).trans (KX2.cell 1)
                    have z1 : ∀ y : After V15, World.cell? y.w ⟨w15.heap.size, 1, none⟩ = some (.slice kp2 n3 kc2) := z1
                    have z2 := fun (y : After V15) => (y.cell KX2.lt).trans (KX2.cell 2)
                    have z2 : ∀ y : After V15, World.cell? y.w ⟨w15.heap.size, 2, none⟩ = some (.slice vp2 n4 vc2) := z2
                    have c1 := fun (y : After V15) => (y.cell (T1.got 0 _ rfl).1).trans (T1.got 0 _ rfl).2
                    have c2 := fun (y : After V15) => (y.cell (T1.got 1 _ rfl).1).trans (T1.got 1 _ rfl).2
                    have c3 := fun (y : After V15) => (y.cell (T2.got 0 _ rfl).1).trans (T2.got 0 _ rfl).2
                    have c4 := fun (y : After V15) => (y.cell (T2.got 1 _ rfl).1).trans (T2.got 1 _ rfl).2
                    have c5 := fun (y : After V15) => (y.cell (B1.got 0 _ rfl).1).trans (B1.got 0 _ rfl).2
                    have c6 := fun (y : After V15) => (y.cell (B1.got 1 _ rfl).1).trans (B1.got 1 _ rfl).2
                    have c7 := fun (y : After V15) => (y.cell (B2.got 0 _ rfl).1).trans (B2.got 0 _ rfl).2
                    have c8 := fun (y : After V15) => (y.cell (B2.got 1 _ rfl).1).trans (B2.got 1 _ rfl).2
                    have HQ0 := Lib.hid fun (y : After V15) => same_at ⟨1, xs, ys⟩ ⟨1, xs2, ys2⟩ true hxy n1 n2 n3 n4 hn1 hn2 hn3 hn4 kp1 vp1 kp2 vp2 kc1 vc1 kc2 vc2 y.w (P1.later y.bel) (Q1.later y.bel) (P2.later y.bel) (Q2.later y.bel) (by omega) (by omega) (by omega) (by omega)
                    clear hcur
                    have HKA := Lib.hid KA
                    have HKB := Lib.hid KB
                    have HKC := Lib.hid KC
                    have HP1 := Lib.hid P1
                    have HQ1 := Lib.hid Q1
                    have HT1 := Lib.hid T1
                    have HB1 := Lib.hid B1
                    have HKX1 := Lib.hid KX1
                    have HP2 := Lib.hid P2
                    have HQ2 := Lib.hid Q2
                    have HT2 := Lib.hid T2
                    have HB2 := Lib.hid B2
                    have HKX2 := Lib.hid KX2
                    have HhB := Lib.hid hB
                    have HhL := Lib.hid hL
                    have Hhr := Lib.hid hr
                    clear KA KB KC P1 Q1 T1 B1 KX1 P2 Q2 T2 B2 KX2 hB hL hr
                    go_wp2_with fail
                    refine wp_region_after (by kernel_rfl) (by kernel_rfl) ?_
                    repeat (go_big_quiet_step (first | (go_at_call 12; with_reducible exact calls_after (HQ0.out _))))
                    refine wpQuiet_nil ?_
                    rintro _ ⟨y, rfl⟩
                    have KA := HKA.out
                    have KB := HKB.out
                    have KC := HKC.out
                    have P1 := HP1.out
                    have Q1 := HQ1.out
                    have T1 := HT1.out
                    have B1 := HB1.out
                    have KX1 := HKX1.out
                    have P2 := HP2.out
                    have Q2 := HQ2.out
                    have T2 := HT2.out
                    have B2 := HB2.out
                    have KX2 := HKX2.out
                    have hB := HhB.out
                    have hL := HhL.out
                    have hr := Hhr.out
                    clear HKA HKB HKC HP1 HQ1 HT1 HB1 HKX1 HP2 HQ2 HT2 HB2 HKX2 HhB HhL Hhr
                    obtain ⟨w16, hX⟩ : ∃ X, X = y.w := ⟨_, rfl⟩
                    have hb := y.bel
                    rw [← hX] at hb
                    rw [← hX]
                    clear hX x0 x1 x2 z0 z1 z2 c1 c2 c3 c4 c5 c6 c7 c8 HQ0
                    clear y
                    replace KA := KA.later hb
                    replace KB := KB.later hb
                    replace KC := KC.later hb
                    replace P1 := P1.later hb
                    replace Q1 := Q1.later hb
                    replace T1 := T1.later hb
                    replace B1 := B1.later hb
                    replace KX1 := KX1.later hb
                    replace P2 := P2.later hb
                    replace Q2 := Q2.later hb
                    replace T2 := T2.later hb
                    replace B2 := B2.later hb
                    replace KX2 := KX2.later hb
                    replace hB := hB.trans (hb.mono hB.size)
                    replace hL := hL.trans (hb.mono hL.size)
                    replace hr := hr.trans (hb.mono hr.size)
                    clear hb
                    have hDD := HD.out
                    have HL1 := Lib.hid hL
                    clear KA KB KC P1 Q1 T1 B1 KX1 P2 Q2 T2 B2 KX2 hB hL hr
                    go_wp2_with fail
                    go_roundw
                    case rel => exact ⟨1, true, by simp, by simp, by omega, Lib.hid ⟨fun _ _ => rfl, fun _ _ => rfl⟩, _, rfl, HL1.out⟩
                    case measure => simp [intOf]
                case neg =>
                  have dhb : (t2 == u1) = false := by simp; exact hb
                  have ehb : (t2 != u1) = true := by simp; exact hb
                  clear hb
                  have hcur : Below V15.heap.size V15 V15 := Below.refl _ _
                  have x0 := fun (y : After V15) => (y.cell KX1.lt).trans (KX1.cell 0)
                  have x0 : ∀ y : After V15, World.cell? y.w ⟨w13.heap.size, 0, none⟩ = some (.int .i64 1) := x0
                  have x1 := fun (y : After V15) => (y.cell KX1.lt).trans (KX1.cell 1)
                  have x1 : ∀ y : After V15, World.cell? y.w ⟨w13.heap.size, 1, none⟩ = some (.slice kp1 n1 kc1) := x1
                  have x2 := fun (y : After V15) => (y.cell KX1.lt).trans (KX1.cell 2)
                  have x2 : ∀ y : After V15, World.cell? y.w ⟨w13.heap.size, 2, none⟩ = some (.slice vp1 n2 vc1) := x2
                  have z0 := fun (y : After V15) => (y.cell KX2.lt).trans (KX2.cell 0)
                  have z0 : ∀ y : After V15, World.cell? y.w ⟨w15.heap.size, 0, none⟩ = some (.int .i64 1) := z0
                  have z1 := fun (y : After V15) => (y.cell KX2.lt).trans (KX2.cell 1)
                  have z1 : ∀ y : After V15, World.cell? y.w ⟨w15.heap.size, 1, none⟩ = some (.slice kp2 n3 kc2) := z1
                  have z2 := fun (y : After V15) => (y.cell KX2.lt).trans (KX2.cell 2)
                  have z2 : ∀ y : After V15, World.cell? y.w ⟨w15.heap.size, 2, none⟩ = some (.slice vp2 n4 vc2) := z2
                  have c1 := fun (y : After V15) => (y.cell (T1.got 0 _ rfl).1).trans (T1.got 0 _ rfl).2
                  have c2 := fun (y : After V15) => (y.cell (T1.got 1 _ rfl).1).trans (T1.got 1 _ rfl).2
                  have c3 := fun (y : After V15) => (y.cell (T2.got 0 _ rfl).1).trans (T2.got 0 _ rfl).2
                  have c4 := fun (y : After V15) => (y.cell (T2.got 1 _ rfl).1).trans (T2.got 1 _ rfl).2
                  have c5 := fun (y : After V15) => (y.cell (B1.got 0 _ rfl).1).trans (B1.got 0 _ rfl).2
                  have c6 := fun (y : After V15) => (y.cell (B1.got 1 _ rfl).1).trans (B1.got 1 _ rfl).2
                  have c7 := fun (y : After V15) => (y.cell (B2.got 0 _ rfl).1).trans (B2.got 0 _ rfl).2
                  have c8 := fun (y : After V15) => (y.cell (B2.got 1 _ rfl).1).trans (B2.got 1 _ rfl).2
                  have HQ0 := Lib.hid fun (y : After V15) => same_at ⟨1, xs, ys⟩ ⟨1, xs2, ys2⟩ true hxy n1 n2 n3 n4 hn1 hn2 hn3 hn4 kp1 vp1 kp2 vp2 kc1 vc1 kc2 vc2 y.w (P1.later y.bel) (Q1.later y.bel) (P2.later y.bel) (Q2.later y.bel) (by omega) (by omega) (by omega) (by omega)
                  clear hcur
                  have HKA := Lib.hid KA
                  have HKB := Lib.hid KB
                  have HKC := Lib.hid KC
                  have HP1 := Lib.hid P1
                  have HQ1 := Lib.hid Q1
                  have HT1 := Lib.hid T1
                  have HB1 := Lib.hid B1
                  have HKX1 := Lib.hid KX1
                  have HP2 := Lib.hid P2
                  have HQ2 := Lib.hid Q2
                  have HT2 := Lib.hid T2
                  have HB2 := Lib.hid B2
                  have HKX2 := Lib.hid KX2
                  have HhB := Lib.hid hB
                  have HhL := Lib.hid hL
                  have Hhr := Lib.hid hr
                  clear KA KB KC P1 Q1 T1 B1 KX1 P2 Q2 T2 B2 KX2 hB hL hr
                  go_wp2_with fail
                  refine wp_region_after (by kernel_rfl) (by kernel_rfl) ?_
                  repeat (go_big_quiet_step (first | (go_at_call 12; with_reducible exact calls_after (HQ0.out _))))
                  refine wpQuiet_nil ?_
                  rintro _ ⟨y, rfl⟩
                  have KA := HKA.out
                  have KB := HKB.out
                  have KC := HKC.out
                  have P1 := HP1.out
                  have Q1 := HQ1.out
                  have T1 := HT1.out
                  have B1 := HB1.out
                  have KX1 := HKX1.out
                  have P2 := HP2.out
                  have Q2 := HQ2.out
                  have T2 := HT2.out
                  have B2 := HB2.out
                  have KX2 := HKX2.out
                  have hB := HhB.out
                  have hL := HhL.out
                  have hr := Hhr.out
                  clear HKA HKB HKC HP1 HQ1 HT1 HB1 HKX1 HP2 HQ2 HT2 HB2 HKX2 HhB HhL Hhr
                  obtain ⟨w16, hX⟩ : ∃ X, X = y.w := ⟨_, rfl⟩
                  have hb := y.bel
                  rw [← hX] at hb
                  rw [← hX]
                  clear hX x0 x1 x2 z0 z1 z2 c1 c2 c3 c4 c5 c6 c7 c8 HQ0
                  clear y
                  replace KA := KA.later hb
                  replace KB := KB.later hb
                  replace KC := KC.later hb
                  replace P1 := P1.later hb
                  replace Q1 := Q1.later hb
                  replace T1 := T1.later hb
                  replace B1 := B1.later hb
                  replace KX1 := KX1.later hb
                  replace P2 := P2.later hb
                  replace Q2 := Q2.later hb
                  replace T2 := T2.later hb
                  replace B2 := B2.later hb
                  replace KX2 := KX2.later hb
                  replace hB := hB.trans (hb.mono hB.size)
                  replace hL := hL.trans (hb.mono hL.size)
                  replace hr := hr.trans (hb.mono hr.size)
                  clear hb
                  have hDD := HD.out
                  have HL1 := Lib.hid hL
                  clear KA KB KC P1 Q1 T1 B1 KX1 P2 Q2 T2 B2 KX2 hB hL hr
                  go_wp2_with fail
                  go_roundw
                  case rel => exact ⟨1, true, by simp, by simp, by omega, Lib.hid ⟨fun _ _ => rfl, fun _ _ => rfl⟩, _, rfl, HL1.out⟩
                  case measure => simp [intOf]
              case neg =>
                have dha : (t1 == u2) = false := by simp; exact ha
                have eha : (t1 != u2) = true := by simp; exact ha
                clear ha
                have hcur : Below V15.heap.size V15 V15 := Below.refl _ _
                have x0 := fun (y : After V15) => (y.cell KX1.lt).trans (KX1.cell 0)
                have x0 : ∀ y : After V15, World.cell? y.w ⟨w13.heap.size, 0, none⟩ = some (.int .i64 1) := x0
                have x1 := fun (y : After V15) => (y.cell KX1.lt).trans (KX1.cell 1)
                have x1 : ∀ y : After V15, World.cell? y.w ⟨w13.heap.size, 1, none⟩ = some (.slice kp1 n1 kc1) := x1
                have x2 := fun (y : After V15) => (y.cell KX1.lt).trans (KX1.cell 2)
                have x2 : ∀ y : After V15, World.cell? y.w ⟨w13.heap.size, 2, none⟩ = some (.slice vp1 n2 vc1) := x2
                have z0 := fun (y : After V15) => (y.cell KX2.lt).trans (KX2.cell 0)
                have z0 : ∀ y : After V15, World.cell? y.w ⟨w15.heap.size, 0, none⟩ = some (.int .i64 1) := z0
                have z1 := fun (y : After V15) => (y.cell KX2.lt).trans (KX2.cell 1)
                have z1 : ∀ y : After V15, World.cell? y.w ⟨w15.heap.size, 1, none⟩ = some (.slice kp2 n3 kc2) := z1
                have z2 := fun (y : After V15) => (y.cell KX2.lt).trans (KX2.cell 2)
                have z2 : ∀ y : After V15, World.cell? y.w ⟨w15.heap.size, 2, none⟩ = some (.slice vp2 n4 vc2) := z2
                have c1 := fun (y : After V15) => (y.cell (T1.got 0 _ rfl).1).trans (T1.got 0 _ rfl).2
                have c2 := fun (y : After V15) => (y.cell (T1.got 1 _ rfl).1).trans (T1.got 1 _ rfl).2
                have c3 := fun (y : After V15) => (y.cell (T2.got 0 _ rfl).1).trans (T2.got 0 _ rfl).2
                have c4 := fun (y : After V15) => (y.cell (T2.got 1 _ rfl).1).trans (T2.got 1 _ rfl).2
                have c5 := fun (y : After V15) => (y.cell (B1.got 0 _ rfl).1).trans (B1.got 0 _ rfl).2
                have c6 := fun (y : After V15) => (y.cell (B1.got 1 _ rfl).1).trans (B1.got 1 _ rfl).2
                have c7 := fun (y : After V15) => (y.cell (B2.got 0 _ rfl).1).trans (B2.got 0 _ rfl).2
                have c8 := fun (y : After V15) => (y.cell (B2.got 1 _ rfl).1).trans (B2.got 1 _ rfl).2
                have HQ0 := Lib.hid fun (y : After V15) => same_at ⟨1, xs, ys⟩ ⟨1, xs2, ys2⟩ true hxy n1 n2 n3 n4 hn1 hn2 hn3 hn4 kp1 vp1 kp2 vp2 kc1 vc1 kc2 vc2 y.w (P1.later y.bel) (Q1.later y.bel) (P2.later y.bel) (Q2.later y.bel) (by omega) (by omega) (by omega) (by omega)
                clear hcur
                have HKA := Lib.hid KA
                have HKB := Lib.hid KB
                have HKC := Lib.hid KC
                have HP1 := Lib.hid P1
                have HQ1 := Lib.hid Q1
                have HT1 := Lib.hid T1
                have HB1 := Lib.hid B1
                have HKX1 := Lib.hid KX1
                have HP2 := Lib.hid P2
                have HQ2 := Lib.hid Q2
                have HT2 := Lib.hid T2
                have HB2 := Lib.hid B2
                have HKX2 := Lib.hid KX2
                have HhB := Lib.hid hB
                have HhL := Lib.hid hL
                have Hhr := Lib.hid hr
                clear KA KB KC P1 Q1 T1 B1 KX1 P2 Q2 T2 B2 KX2 hB hL hr
                go_wp2_with fail
                refine wp_region_after (by kernel_rfl) (by kernel_rfl) ?_
                repeat (go_big_quiet_step (first | (go_at_call 12; with_reducible exact calls_after (HQ0.out _))))
                refine wpQuiet_nil ?_
                rintro _ ⟨y, rfl⟩
                have KA := HKA.out
                have KB := HKB.out
                have KC := HKC.out
                have P1 := HP1.out
                have Q1 := HQ1.out
                have T1 := HT1.out
                have B1 := HB1.out
                have KX1 := HKX1.out
                have P2 := HP2.out
                have Q2 := HQ2.out
                have T2 := HT2.out
                have B2 := HB2.out
                have KX2 := HKX2.out
                have hB := HhB.out
                have hL := HhL.out
                have hr := Hhr.out
                clear HKA HKB HKC HP1 HQ1 HT1 HB1 HKX1 HP2 HQ2 HT2 HB2 HKX2 HhB HhL Hhr
                obtain ⟨w16, hX⟩ : ∃ X, X = y.w := ⟨_, rfl⟩
                have hb := y.bel
                rw [← hX] at hb
                rw [← hX]
                clear hX x0 x1 x2 z0 z1 z2 c1 c2 c3 c4 c5 c6 c7 c8 HQ0
                clear y
                replace KA := KA.later hb
                replace KB := KB.later hb
                replace KC := KC.later hb
                replace P1 := P1.later hb
                replace Q1 := Q1.later hb
                replace T1 := T1.later hb
                replace B1 := B1.later hb
                replace KX1 := KX1.later hb
                replace P2 := P2.later hb
                replace Q2 := Q2.later hb
                replace T2 := T2.later hb
                replace B2 := B2.later hb
                replace KX2 := KX2.later hb
                replace hB := hB.trans (hb.mono hB.size)
                replace hL := hL.trans (hb.mono hL.size)
                replace hr := hr.trans (hb.mono hr.size)
                clear hb
                have hDD := HD.out
                have HL1 := Lib.hid hL
                clear KA KB KC P1 Q1 T1 B1 KX1 P2 Q2 T2 B2 KX2 hB hL hr
                go_wp2_with fail
                go_roundw
                case rel => exact ⟨1, true, by simp, by simp, by omega, Lib.hid ⟨fun _ _ => rfl, fun _ _ => rfl⟩, _, rfl, HL1.out⟩
                case measure => simp [intOf]
          case true =>
            have hcur : Below V15.heap.size V15 V15 := Below.refl _ _
            have x0 := fun (y : After V15) => (y.cell KX1.lt).trans (KX1.cell 0)
            have x0 : ∀ y : After V15, World.cell? y.w ⟨w13.heap.size, 0, none⟩ = some (.int .i64 1) := x0
            have x1 := fun (y : After V15) => (y.cell KX1.lt).trans (KX1.cell 1)
            have x1 : ∀ y : After V15, World.cell? y.w ⟨w13.heap.size, 1, none⟩ = some (.slice kp1 n1 kc1) := x1
            have x2 := fun (y : After V15) => (y.cell KX1.lt).trans (KX1.cell 2)
            have x2 : ∀ y : After V15, World.cell? y.w ⟨w13.heap.size, 2, none⟩ = some (.slice vp1 n2 vc1) := x2
            have z0 := fun (y : After V15) => (y.cell KX2.lt).trans (KX2.cell 0)
            have z0 : ∀ y : After V15, World.cell? y.w ⟨w15.heap.size, 0, none⟩ = some (.int .i64 1) := z0
            have z1 := fun (y : After V15) => (y.cell KX2.lt).trans (KX2.cell 1)
            have z1 : ∀ y : After V15, World.cell? y.w ⟨w15.heap.size, 1, none⟩ = some (.slice kp2 n3 kc2) := z1
            have z2 := fun (y : After V15) => (y.cell KX2.lt).trans (KX2.cell 2)
            have z2 : ∀ y : After V15, World.cell? y.w ⟨w15.heap.size, 2, none⟩ = some (.slice vp2 n4 vc2) := z2
            have c1 := fun (y : After V15) => (y.cell (T1.got 0 _ rfl).1).trans (T1.got 0 _ rfl).2
            have c2 := fun (y : After V15) => (y.cell (T1.got 1 _ rfl).1).trans (T1.got 1 _ rfl).2
            have c3 := fun (y : After V15) => (y.cell (T2.got 0 _ rfl).1).trans (T2.got 0 _ rfl).2
            have c4 := fun (y : After V15) => (y.cell (T2.got 1 _ rfl).1).trans (T2.got 1 _ rfl).2
            have c5 := fun (y : After V15) => (y.cell (B1.got 0 _ rfl).1).trans (B1.got 0 _ rfl).2
            have c6 := fun (y : After V15) => (y.cell (B1.got 1 _ rfl).1).trans (B1.got 1 _ rfl).2
            have c7 := fun (y : After V15) => (y.cell (B2.got 0 _ rfl).1).trans (B2.got 0 _ rfl).2
            have c8 := fun (y : After V15) => (y.cell (B2.got 1 _ rfl).1).trans (B2.got 1 _ rfl).2
            clear hcur
            have HKA := Lib.hid KA
            have HKB := Lib.hid KB
            have HKC := Lib.hid KC
            have HP1 := Lib.hid P1
            have HQ1 := Lib.hid Q1
            have HT1 := Lib.hid T1
            have HB1 := Lib.hid B1
            have HKX1 := Lib.hid KX1
            have HP2 := Lib.hid P2
            have HQ2 := Lib.hid Q2
            have HT2 := Lib.hid T2
            have HB2 := Lib.hid B2
            have HKX2 := Lib.hid KX2
            have HhB := Lib.hid hB
            have HhL := Lib.hid hL
            have Hhr := Lib.hid hr
            clear KA KB KC P1 Q1 T1 B1 KX1 P2 Q2 T2 B2 KX2 hB hL hr
            go_wp2_with fail
            refine wp_region_after (by kernel_rfl) (by kernel_rfl) ?_
            repeat (go_big_quiet_step (fail))
            refine wpQuiet_nil ?_
            rintro _ ⟨y, rfl⟩
            have KA := HKA.out
            have KB := HKB.out
            have KC := HKC.out
            have P1 := HP1.out
            have Q1 := HQ1.out
            have T1 := HT1.out
            have B1 := HB1.out
            have KX1 := HKX1.out
            have P2 := HP2.out
            have Q2 := HQ2.out
            have T2 := HT2.out
            have B2 := HB2.out
            have KX2 := HKX2.out
            have hB := HhB.out
            have hL := HhL.out
            have hr := Hhr.out
            clear HKA HKB HKC HP1 HQ1 HT1 HB1 HKX1 HP2 HQ2 HT2 HB2 HKX2 HhB HhL Hhr
            obtain ⟨w16, hX⟩ : ∃ X, X = y.w := ⟨_, rfl⟩
            have hb := y.bel
            rw [← hX] at hb
            rw [← hX]
            clear hX x0 x1 x2 z0 z1 z2 c1 c2 c3 c4 c5 c6 c7 c8
            clear y
            replace KA := KA.later hb
            replace KB := KB.later hb
            replace KC := KC.later hb
            replace P1 := P1.later hb
            replace Q1 := Q1.later hb
            replace T1 := T1.later hb
            replace B1 := B1.later hb
            replace KX1 := KX1.later hb
            replace P2 := P2.later hb
            replace Q2 := Q2.later hb
            replace T2 := T2.later hb
            replace B2 := B2.later hb
            replace KX2 := KX2.later hb
            replace hB := hB.trans (hb.mono hB.size)
            replace hL := hL.trans (hb.mono hL.size)
            replace hr := hr.trans (hb.mono hr.size)
            clear hb
            have hDD := HD.out
            have HL1 := Lib.hid hL
            clear KA KB KC P1 Q1 T1 B1 KX1 P2 Q2 T2 B2 KX2 hB hL hr
            go_wp2_with fail
            go_roundw
            case rel => exact ⟨1, true, by simp, by simp, by omega, Lib.hid ⟨fun _ _ => rfl, fun _ _ => rfl⟩, _, rfl, HL1.out⟩
            case measure => simp [intOf]
        case inr =>
          have HKAr := Lib.hid KAr
          have HKBr := Lib.hid KBr
          have HB0 := Lib.hid hB
          have HL0 := Lib.hid hL
          clear KAr KBr
          have HKA := Lib.hid KA
          have HKB := Lib.hid KB
          have HhB := Lib.hid hB
          have HhL := Lib.hid hL
          have Hhr := Lib.hid hr
          clear KA KB hB hL hr
          go_wp2_with fail
          have KA := HKA.out
          have KB := HKB.out
          have hB := HhB.out
          have hL := HhL.out
          have hr := Hhr.out
          clear HKA HKB HhB HhL Hhr
          refine (new_any 1 _).mono ?_
          rintro e w11 ⟨rfl, hb⟩
          replace KA := KA.later hb
          replace KB := KB.later hb
          replace hB := hB.trans (hb.mono hB.size)
          replace hL := hL.trans (hb.mono hL.size)
          replace hr := hr.trans (hb.mono hr.size)
          clear hb
          have hrs := hr.size
          obtain ⟨V11, hV⟩ : ∃ V, V = w11.alloc (Obj.cells #[.int .i64 1, .slice none 0 0, .slice none 0 0] 24) := ⟨_, rfl⟩
          have KC : Blk V11 w11.heap.size 24 #[.int .i64 1, .slice none 0 0, .slice none 0 0] := by rw [hV]; exact Blk.made _ _ _
          have hbv : Below w11.heap.size w11 V11 := by rw [hV]; exact below_alloc1 _ _
          replace KA := KA.later hbv
          replace KB := KB.later hbv
          replace hB := hB.trans (hbv.mono hB.size)
          replace hL := hL.trans (hbv.mono hL.size)
          replace hr := hr.trans (hbv.mono hr.size)
          clear hbv
          have HV := Lib.hid hV
          clear hV
          have hVs : V11.heap.size = w11.heap.size + 1 := by rw [HV.out]; simp
          have HKA := Lib.hid KA
          have HKB := Lib.hid KB
          have HKC := Lib.hid KC
          have HhB := Lib.hid hB
          have HhL := Lib.hid hL
          have Hhr := Lib.hid hr
          clear KA KB KC hB hL hr
          go_wp2_with fail
          have KA := HKA.out
          have KB := HKB.out
          have KC := HKC.out
          have hB := HhB.out
          have hL := HhL.out
          have hr := Hhr.out
          clear HKA HKB HKC HhB HhL Hhr
          rw [← HV.out]
          clear HV
          refine (put_new key (1 + a) _).mono ?_
          rintro e w12 ⟨kp, kc, vp, vc, rfl, P, Q, hP, hQ, hb⟩
          replace KA := KA.later hb
          replace KB := KB.later hb
          replace KC := KC.later hb
          replace hB := hB.trans (hb.mono hB.size)
          replace hL := hL.trans (hb.mono hL.size)
          replace hr := hr.trans (hb.mono hr.size)
          clear hb
          have z0 : World.cell? _ ⟨w11.heap.size, 0, none⟩ = some (.int .i64 1) := KC.cell 0
          have z1 : World.cell? _ ⟨w11.heap.size, 1, none⟩ = some (.slice none 0 0) := KC.cell 1
          have z2 : World.cell? _ ⟨w11.heap.size, 2, none⟩ = some (.slice none 0 0) := KC.cell 2
          have zl := KC.lt
          have f0 := KC.free 0
          have f1 := KC.free 1
          have f2 := KC.free 2
          obtain ⟨X, hX⟩ : ∃ X, X = (((w12.setCell ⟨w11.heap.size, 0, none⟩ (.int .i64 1)).setCell ⟨w11.heap.size, 1, none⟩ (.slice kp 1 kc)).setCell ⟨w11.heap.size, 2, none⟩ (.slice vp 1 vc)) := ⟨_, rfl⟩
          have hgr : wr.heap.size ≤ w11.heap.size := hrs
          have hbX : Below wr.heap.size wr X := by rw [hX]; exact below_set3 hr hgr _ _ _
          replace KA := HKAr.out.later hbX
          replace KB := HKBr.out.later hbX
          replace KC : Blk X w11.heap.size 24 #[.int .i64 1, .slice kp 1 kc, .slice vp 1 vc] := by rw [hX]; exact KC.put3 _ _ _
          replace P : Nums X kp kc [key] := by rw [hX]; exact P.far3 _ _ _ _ (fun _ b off e => by have := hP b off e; omega)
          replace Q : Nums X vp vc [1 + a] := by rw [hX]; exact Q.far3 _ _ _ _ (fun _ b off e => by have := hQ b off e; omega)
          replace hB := HB0.out.trans (hbX.mono HB0.out.size)
          replace hL := HL0.out.trans (hbX.mono HL0.out.size)
          replace hr := hbX
          clear hbX hP hQ
          have ya0 : World.cell? _ ⟨w1.heap.size, 0, none⟩ = some (.int .i64 k1) := KA.cell 0
          have ya1 : World.cell? _ ⟨w1.heap.size, 1, none⟩ = some (.int .i64 0) := KA.cell 1
          have ya2 : World.cell? _ ⟨w1.heap.size, 2, none⟩ = some (.int .i64 key) := KA.cell 2
          have ya3 : World.cell? _ ⟨w1.heap.size, 3, none⟩ = some (.int .i64 a) := KA.cell 3
          have yal := KA.lt
          have yb0 : World.cell? _ ⟨w1.heap.size + 1, 0, none⟩ = some (.int .i64 k2) := KB.cell 0
          have yb1 : World.cell? _ ⟨w1.heap.size + 1, 1, none⟩ = some (.int .i64 0) := KB.cell 1
          have yb2 : World.cell? _ ⟨w1.heap.size + 1, 2, none⟩ = some (.int .i64 key) := KB.cell 2
          have yb3 : World.cell? _ ⟨w1.heap.size + 1, 3, none⟩ = some (.int .i64 b) := KB.cell 3
          have ybl := KB.lt
          rw [hX] at ya0
          rw [hX] at ya1
          rw [hX] at ya2
          rw [hX] at ya3
          skip
          rw [hX] at yb0
          rw [hX] at yb1
          rw [hX] at yb2
          rw [hX] at yb3
          skip
          have HV := Lib.hid hX
          clear hX
          obtain ⟨xs, ys, xs2, ys2, t1, t2, u1, u2, i1, i2, j1, j2, hd1, hd2, q1, q2, q3, q4, hdif⟩ := all_pair [key] [1 + a] ⟨k1, 0, key, a⟩ ⟨k2, 0, key, b⟩
          obtain ⟨n1, hn1⟩ : ∃ n, xs.length = n := ⟨_, rfl⟩
          obtain ⟨n2, hn2⟩ : ∃ n, ys.length = n := ⟨_, rfl⟩
          obtain ⟨n3, hn3⟩ : ∃ n, xs2.length = n := ⟨_, rfl⟩
          obtain ⟨n4, hn4⟩ : ∃ n, ys2.length = n := ⟨_, rfl⟩
          simp only [List.length_nil, List.length_cons, hn1, hn2, hn3, hn4] at q1 q2 q3 q4
          have HDF := Lib.hid hdif
          clear hdif
          obtain ⟨V13, hV⟩ : ∃ V, V = X.alloc (Obj.cells #[.int .i64 k1, .int .i64 0, .int .i64 key, .int .i64 a, .int .i64 k2, .int .i64 0, .int .i64 key, .int .i64 b] 26) := ⟨_, rfl⟩
          have hod : Ods V13 (some ⟨X.heap.size, 0, none⟩) [⟨k1, 0, key, a⟩, ⟨k2, 0, key, b⟩] := Ods.of_blk (t := 26) (cs := #[.int .i64 k1, .int .i64 0, .int .i64 key, .int .i64 a, .int .i64 k2, .int .i64 0, .int .i64 key, .int .i64 b]) (by rw [hV]; exact Blk.made _ _ _) rfl
          have hbv : Below X.heap.size X V13 := by rw [hV]; exact below_alloc1 _ _
          replace KA := KA.later hbv
          replace KB := KB.later hbv
          replace KC := KC.later hbv
          replace P := P.later hbv
          replace Q := Q.later hbv
          replace hB := hB.trans (hbv.mono hB.size)
          replace hL := hL.trans (hbv.mono hL.size)
          replace hr := hr.trans (hbv.mono hr.size)
          clear hbv
          rw [show X.heap.size = w12.heap.size from by rw [HV.out]; simp] at hod
          have HU := Lib.hid hV
          clear hV
          have HKA := Lib.hid KA
          have HKB := Lib.hid KB
          have HKC := Lib.hid KC
          have HP := Lib.hid P
          have HQ := Lib.hid Q
          have Hhod := Lib.hid hod
          have HhB := Lib.hid hB
          have HhL := Lib.hid hL
          have Hhr := Lib.hid hr
          clear KA KB KC P Q hod hB hL hr
          go_wp2_with fail
          clear ya0 ya1 ya2 ya3 yal yb0 yb1 yb2 yb3 ybl z0 z1 z2 zl f0 f1 f2
          have KA := HKA.out
          have KB := HKB.out
          have KC := HKC.out
          have P := HP.out
          have Q := HQ.out
          have hod := Hhod.out
          have hB := HhB.out
          have hL := HhL.out
          have hr := Hhr.out
          clear HKA HKB HKC HP HQ Hhod HhB HhL Hhr
          rw [← HV.out]
          clear HV
          rw [← HU.out]
          clear HU
          refine (all_at ⟨1, [key], [1 + a]⟩ [⟨k1, 0, key, a⟩, ⟨k2, 0, key, b⟩] 2 rfl _ _ _ _ _ hd1 1 1 rfl rfl _ _ _ _ _ _ _ P Q hod (by omega) (by omega) (by omega) n1 n2 hn1 hn2).mono ?_
          rintro e w14 ⟨kp1, kc1, vp1, vc1, ga1, gb1, rfl, P1, Q1, T1, B1, hb⟩
          replace KA := KA.later hb
          replace KB := KB.later hb
          replace KC := KC.later hb
          replace P := P.later hb
          replace Q := Q.later hb
          replace hod := hod.later hb
          replace hB := hB.trans (hb.mono hB.size)
          replace hL := hL.trans (hb.mono hL.size)
          replace hr := hr.trans (hb.mono hr.size)
          clear hb
          clear hod
          have z0 : World.cell? _ ⟨w11.heap.size, 0, none⟩ = some (.int .i64 1) := KC.cell 0
          have z1 : World.cell? _ ⟨w11.heap.size, 1, none⟩ = some (.slice kp 1 kc) := KC.cell 1
          have z2 : World.cell? _ ⟨w11.heap.size, 2, none⟩ = some (.slice vp 1 vc) := KC.cell 2
          have zl := KC.lt
          have ya0 : World.cell? _ ⟨w1.heap.size, 0, none⟩ = some (.int .i64 k1) := KA.cell 0
          have ya1 : World.cell? _ ⟨w1.heap.size, 1, none⟩ = some (.int .i64 0) := KA.cell 1
          have ya2 : World.cell? _ ⟨w1.heap.size, 2, none⟩ = some (.int .i64 key) := KA.cell 2
          have ya3 : World.cell? _ ⟨w1.heap.size, 3, none⟩ = some (.int .i64 a) := KA.cell 3
          have yal := KA.lt
          have yb0 : World.cell? _ ⟨w1.heap.size + 1, 0, none⟩ = some (.int .i64 k2) := KB.cell 0
          have yb1 : World.cell? _ ⟨w1.heap.size + 1, 1, none⟩ = some (.int .i64 0) := KB.cell 1
          have yb2 : World.cell? _ ⟨w1.heap.size + 1, 2, none⟩ = some (.int .i64 key) := KB.cell 2
          have yb3 : World.cell? _ ⟨w1.heap.size + 1, 3, none⟩ = some (.int .i64 b) := KB.cell 3
          have ybl := KB.lt
          obtain ⟨V14, hV⟩ : ∃ V, V = w14.alloc (Obj.cells #[.int .i64 1, .slice kp1 n1 kc1, .slice vp1 n2 vc1] 24) := ⟨_, rfl⟩
          have KX1 : Blk V14 w14.heap.size 24 #[.int .i64 1, .slice kp1 n1 kc1, .slice vp1 n2 vc1] := by rw [hV]; exact Blk.made _ _ _
          have hbv : Below w14.heap.size w14 V14 := by rw [hV]; exact below_alloc1 _ _
          replace KA := KA.later hbv
          replace KB := KB.later hbv
          replace KC := KC.later hbv
          replace P := P.later hbv
          replace Q := Q.later hbv
          replace P1 := P1.later hbv
          replace Q1 := Q1.later hbv
          replace T1 := T1.later hbv
          replace B1 := B1.later hbv
          replace hB := hB.trans (hbv.mono hB.size)
          replace hL := hL.trans (hbv.mono hL.size)
          replace hr := hr.trans (hbv.mono hr.size)
          clear hbv
          have HV := Lib.hid hV
          clear hV
          obtain ⟨V15, hV⟩ : ∃ V, V = V14.alloc (Obj.cells #[.int .i64 k2, .int .i64 0, .int .i64 key, .int .i64 b, .int .i64 k1, .int .i64 0, .int .i64 key, .int .i64 a] 26) := ⟨_, rfl⟩
          have hod : Ods V15 (some ⟨V14.heap.size, 0, none⟩) [⟨k2, 0, key, b⟩, ⟨k1, 0, key, a⟩] := Ods.of_blk (t := 26) (cs := #[.int .i64 k2, .int .i64 0, .int .i64 key, .int .i64 b, .int .i64 k1, .int .i64 0, .int .i64 key, .int .i64 a]) (by rw [hV]; exact Blk.made _ _ _) rfl
          have hbv : Below V14.heap.size V14 V15 := by rw [hV]; exact below_alloc1 _ _
          replace KA := KA.later hbv
          replace KB := KB.later hbv
          replace KC := KC.later hbv
          replace P := P.later hbv
          replace Q := Q.later hbv
          replace P1 := P1.later hbv
          replace Q1 := Q1.later hbv
          replace T1 := T1.later hbv
          replace B1 := B1.later hbv
          replace KX1 := KX1.later hbv
          replace hB := hB.trans (hbv.mono hB.size)
          replace hL := hL.trans (hbv.mono hL.size)
          replace hr := hr.trans (hbv.mono hr.size)
          clear hbv
          rw [show V14.heap.size = w14.heap.size + 1 from by rw [HV.out]; simp] at hod
          have HU := Lib.hid hV
          clear hV
          have HKA := Lib.hid KA
          have HKB := Lib.hid KB
          have HKC := Lib.hid KC
          have HP := Lib.hid P
          have HQ := Lib.hid Q
          have HP1 := Lib.hid P1
          have HQ1 := Lib.hid Q1
          have HT1 := Lib.hid T1
          have HB1 := Lib.hid B1
          have HKX1 := Lib.hid KX1
          have Hhod := Lib.hid hod
          have HhB := Lib.hid hB
          have HhL := Lib.hid hL
          have Hhr := Lib.hid hr
          clear KA KB KC P Q P1 Q1 T1 B1 KX1 hod hB hL hr
          go_wp2_with fail
          clear z0 z1 z2 zl ya0 ya1 ya2 ya3 yal yb0 yb1 yb2 yb3 ybl
          have KA := HKA.out
          have KB := HKB.out
          have KC := HKC.out
          have P := HP.out
          have Q := HQ.out
          have P1 := HP1.out
          have Q1 := HQ1.out
          have T1 := HT1.out
          have B1 := HB1.out
          have KX1 := HKX1.out
          have hod := Hhod.out
          have hB := HhB.out
          have hL := HhL.out
          have hr := Hhr.out
          clear HKA HKB HKC HP HQ HP1 HQ1 HT1 HB1 HKX1 Hhod HhB HhL Hhr
          rw [← HV.out]
          clear HV
          rw [← HU.out]
          clear HU
          refine (all_at ⟨1, [key], [1 + a]⟩ [⟨k2, 0, key, b⟩, ⟨k1, 0, key, a⟩] 2 rfl _ _ _ _ _ hd2 1 1 rfl rfl _ _ _ _ _ _ _ P Q hod (by omega) (by omega) (by omega) n3 n4 hn3 hn4).mono ?_
          rintro e w16 ⟨kp2, kc2, vp2, vc2, ga2, gb2, rfl, P2, Q2, T2, B2, hb⟩
          replace KA := KA.later hb
          replace KB := KB.later hb
          replace KC := KC.later hb
          replace P := P.later hb
          replace Q := Q.later hb
          replace P1 := P1.later hb
          replace Q1 := Q1.later hb
          replace T1 := T1.later hb
          replace B1 := B1.later hb
          replace KX1 := KX1.later hb
          replace hod := hod.later hb
          replace hB := hB.trans (hb.mono hB.size)
          replace hL := hL.trans (hb.mono hL.size)
          replace hr := hr.trans (hb.mono hr.size)
          clear hb
          clear hod
          have z0 : World.cell? _ ⟨w14.heap.size, 0, none⟩ = some (.int .i64 1) := KX1.cell 0
          have z1 : World.cell? _ ⟨w14.heap.size, 1, none⟩ = some (.slice kp1 n1 kc1) := KX1.cell 1
          have z2 : World.cell? _ ⟨w14.heap.size, 2, none⟩ = some (.slice vp1 n2 vc1) := KX1.cell 2
          have zl := KX1.lt
          obtain ⟨V16, hV⟩ : ∃ V, V = w16.alloc (Obj.cells #[.int .i64 1, .slice kp2 n3 kc2, .slice vp2 n4 vc2] 24) := ⟨_, rfl⟩
          have KX2 : Blk V16 w16.heap.size 24 #[.int .i64 1, .slice kp2 n3 kc2, .slice vp2 n4 vc2] := by rw [hV]; exact Blk.made _ _ _
          have hbv : Below w16.heap.size w16 V16 := by rw [hV]; exact below_alloc1 _ _
          replace KA := KA.later hbv
          replace KB := KB.later hbv
          replace KC := KC.later hbv
          replace P := P.later hbv
          replace Q := Q.later hbv
          replace P1 := P1.later hbv
          replace Q1 := Q1.later hbv
          replace T1 := T1.later hbv
          replace B1 := B1.later hbv
          replace KX1 := KX1.later hbv
          replace P2 := P2.later hbv
          replace Q2 := Q2.later hbv
          replace T2 := T2.later hbv
          replace B2 := B2.later hbv
          replace hB := hB.trans (hbv.mono hB.size)
          replace hL := hL.trans (hbv.mono hL.size)
          replace hr := hr.trans (hbv.mono hr.size)
          clear hbv
          have HV := Lib.hid hV
          clear hV
          have HKA := Lib.hid KA
          have HKB := Lib.hid KB
          have HKC := Lib.hid KC
          have HP := Lib.hid P
          have HQ := Lib.hid Q
          have HP1 := Lib.hid P1
          have HQ1 := Lib.hid Q1
          have HT1 := Lib.hid T1
          have HB1 := Lib.hid B1
          have HKX1 := Lib.hid KX1
          have HP2 := Lib.hid P2
          have HQ2 := Lib.hid Q2
          have HT2 := Lib.hid T2
          have HB2 := Lib.hid B2
          have HKX2 := Lib.hid KX2
          have HhB := Lib.hid hB
          have HhL := Lib.hid hL
          have Hhr := Lib.hid hr
          clear KA KB KC P Q P1 Q1 T1 B1 KX1 P2 Q2 T2 B2 KX2 hB hL hr
          go_wp2_with fail
          clear z0 z1 z2 zl
          have KA := HKA.out
          have KB := HKB.out
          have KC := HKC.out
          have P := HP.out
          have Q := HQ.out
          have P1 := HP1.out
          have Q1 := HQ1.out
          have T1 := HT1.out
          have B1 := HB1.out
          have KX1 := HKX1.out
          have P2 := HP2.out
          have Q2 := HQ2.out
          have T2 := HT2.out
          have B2 := HB2.out
          have KX2 := HKX2.out
          have hB := HhB.out
          have hL := HhL.out
          have hr := Hhr.out
          clear HKA HKB HKC HP HQ HP1 HQ1 HT1 HB1 HKX1 HP2 HQ2 HT2 HB2 HKX2 HhB HhL Hhr
          rw [← HV.out]
          clear HV
          cases sb
          case false =>
            cases hxy : decide ((⟨1, xs, ys⟩ : ContV) = ⟨1, xs2, ys2⟩)
            case false =>
              have hcur : Below V16.heap.size V16 V16 := Below.refl _ _
              have x0 := fun (y : After V16) => (y.cell KX1.lt).trans (KX1.cell 0)
              have x0 : ∀ y : After V16, World.cell? y.w ⟨w14.heap.size, 0, none⟩ = some (.int .i64 1) := x0
              have x1 := fun (y : After V16) => (y.cell KX1.lt).trans (KX1.cell 1)
              have x1 : ∀ y : After V16, World.cell? y.w ⟨w14.heap.size, 1, none⟩ = some (.slice kp1 n1 kc1) := x1
              have x2 := fun (y : After V16) => (y.cell KX1.lt).trans (KX1.cell 2)
              have x2 : ∀ y : After V16, World.cell? y.w ⟨w14.heap.size, 2, none⟩ = some (.slice vp1 n2 vc1) := x2
              have z0 := fun (y : After V16) => (y.cell KX2.lt).trans (KX2.cell 0)
              have z0 : ∀ y : After V16, World.cell? y.w ⟨w16.heap.size, 0, none⟩ = some (.int .i64 1) := z0
              have z1 := fun (y : After V16) => (y.cell KX2.lt).trans (KX2.cell 1)
              have z1 : ∀ y : After V16, World.cell? y.w ⟨w16.heap.size, 1, none⟩ = some (.slice kp2 n3 kc2) := z1
              have z2 := fun (y : After V16) => (y.cell KX2.lt).trans (KX2.cell 2)
              have z2 : ∀ y : After V16, World.cell? y.w ⟨w16.heap.size, 2, none⟩ = some (.slice vp2 n4 vc2) := z2
              have c1 := fun (y : After V16) => (y.cell (T1.got 0 _ rfl).1).trans (T1.got 0 _ rfl).2
              have c2 := fun (y : After V16) => (y.cell (T1.got 1 _ rfl).1).trans (T1.got 1 _ rfl).2
              have c3 := fun (y : After V16) => (y.cell (T2.got 0 _ rfl).1).trans (T2.got 0 _ rfl).2
              have c4 := fun (y : After V16) => (y.cell (T2.got 1 _ rfl).1).trans (T2.got 1 _ rfl).2
              have c5 := fun (y : After V16) => (y.cell (B1.got 0 _ rfl).1).trans (B1.got 0 _ rfl).2
              have c6 := fun (y : After V16) => (y.cell (B1.got 1 _ rfl).1).trans (B1.got 1 _ rfl).2
              have c7 := fun (y : After V16) => (y.cell (B2.got 0 _ rfl).1).trans (B2.got 0 _ rfl).2
              have c8 := fun (y : After V16) => (y.cell (B2.got 1 _ rfl).1).trans (B2.got 1 _ rfl).2
              have HQ0 := Lib.hid fun (y : After V16) => same_at ⟨1, xs, ys⟩ ⟨1, xs2, ys2⟩ false hxy n1 n2 n3 n4 hn1 hn2 hn3 hn4 kp1 vp1 kp2 vp2 kc1 vc1 kc2 vc2 y.w (P1.later y.bel) (Q1.later y.bel) (P2.later y.bel) (Q2.later y.bel) (by omega) (by omega) (by omega) (by omega)
              clear hcur
              have HKA := Lib.hid KA
              have HKB := Lib.hid KB
              have HKC := Lib.hid KC
              have HP := Lib.hid P
              have HQ := Lib.hid Q
              have HP1 := Lib.hid P1
              have HQ1 := Lib.hid Q1
              have HT1 := Lib.hid T1
              have HB1 := Lib.hid B1
              have HKX1 := Lib.hid KX1
              have HP2 := Lib.hid P2
              have HQ2 := Lib.hid Q2
              have HT2 := Lib.hid T2
              have HB2 := Lib.hid B2
              have HKX2 := Lib.hid KX2
              have HhB := Lib.hid hB
              have HhL := Lib.hid hL
              have Hhr := Lib.hid hr
              clear KA KB KC P Q P1 Q1 T1 B1 KX1 P2 Q2 T2 B2 KX2 hB hL hr
              go_wp2_with fail
              refine wp_region_after (by kernel_rfl) (by kernel_rfl) ?_
              repeat (go_big_quiet_step (first | (go_at_call 12; with_reducible exact calls_after (HQ0.out _))))
              refine wpQuiet_nil ?_
              rintro _ ⟨y, rfl⟩
              have KA := HKA.out
              have KB := HKB.out
              have KC := HKC.out
              have P := HP.out
              have Q := HQ.out
              have P1 := HP1.out
              have Q1 := HQ1.out
              have T1 := HT1.out
              have B1 := HB1.out
              have KX1 := HKX1.out
              have P2 := HP2.out
              have Q2 := HQ2.out
              have T2 := HT2.out
              have B2 := HB2.out
              have KX2 := HKX2.out
              have hB := HhB.out
              have hL := HhL.out
              have hr := Hhr.out
              clear HKA HKB HKC HP HQ HP1 HQ1 HT1 HB1 HKX1 HP2 HQ2 HT2 HB2 HKX2 HhB HhL Hhr
              obtain ⟨w17, hX⟩ : ∃ X, X = y.w := ⟨_, rfl⟩
              have hb := y.bel
              rw [← hX] at hb
              rw [← hX]
              clear hX x0 x1 x2 z0 z1 z2 c1 c2 c3 c4 c5 c6 c7 c8 HQ0
              clear y
              replace KA := KA.later hb
              replace KB := KB.later hb
              replace KC := KC.later hb
              replace P := P.later hb
              replace Q := Q.later hb
              replace P1 := P1.later hb
              replace Q1 := Q1.later hb
              replace T1 := T1.later hb
              replace B1 := B1.later hb
              replace KX1 := KX1.later hb
              replace P2 := P2.later hb
              replace Q2 := Q2.later hb
              replace T2 := T2.later hb
              replace B2 := B2.later hb
              replace KX2 := KX2.later hb
              replace hB := hB.trans (hb.mono hB.size)
              replace hL := hL.trans (hb.mono hL.size)
              replace hr := hr.trans (hb.mono hr.size)
              clear hb
              have hDD := HD.out
              have HL1 := Lib.hid hL
              clear KA KB KC P Q P1 Q1 T1 B1 KX1 P2 Q2 T2 B2 KX2 hB hL hr
              go_wp2_with fail
              go_roundw
              case rel => exact ⟨2, true, by simp, by simp, by omega, Lib.hid ⟨fun _ _ => rfl, fun _ _ => rfl⟩, _, rfl, HL1.out⟩
              case measure => simp [intOf]
            case true =>
              by_cases ha : t1 = u2
              case pos =>
                have dha : (t1 == u2) = true := by simp; exact ha
                have eha : (t1 != u2) = false := by simp; exact ha
                have Hha := Lib.hid ha
                clear ha
                by_cases hb : t2 = u1
                case pos =>
                  have dhb : (t2 == u1) = true := by simp; exact hb
                  have ehb : (t2 != u1) = false := by simp; exact hb
                  have Hhb := Lib.hid hb
                  clear hb
                  by_cases hc : i1 = j2
                  case pos =>
                    have dhc : (i1 == j2) = true := by simp; exact hc
                    have ehc : (i1 != j2) = false := by simp; exact hc
                    have Hhc := Lib.hid hc
                    clear hc
                    by_cases hd : i2 = j1
                    case pos =>
                      have dhd : (i2 == j1) = true := by simp; exact hd
                      have ehd : (i2 != j1) = false := by simp; exact hd
                      have Hhd := Lib.hid hd
                      clear hd
                      have hcur : Below V16.heap.size V16 V16 := Below.refl _ _
                      have x0 := fun (y : After V16) => (y.cell KX1.lt).trans (KX1.cell 0)
                      have x0 : ∀ y : After V16, World.cell? y.w ⟨w14.heap.size, 0, none⟩ = some (.int .i64 1) := x0
                      have x1 := fun (y : After V16) => (y.cell KX1.lt).trans (KX1.cell 1)
                      have x1 : ∀ y : After V16, World.cell? y.w ⟨w14.heap.size, 1, none⟩ = some (.slice kp1 n1 kc1) := x1
                      have x2 := fun (y : After V16) => (y.cell KX1.lt).trans (KX1.cell 2)
                      have x2 : ∀ y : After V16, World.cell? y.w ⟨w14.heap.size, 2, none⟩ = some (.slice vp1 n2 vc1) := x2
                      have z0 := fun (y : After V16) => (y.cell KX2.lt).trans (KX2.cell 0)
                      have z0 : ∀ y : After V16, World.cell? y.w ⟨w16.heap.size, 0, none⟩ = some (.int .i64 1) := z0
                      have z1 := fun (y : After V16) => (y.cell KX2.lt).trans (KX2.cell 1)
                      have z1 : ∀ y : After V16, World.cell? y.w ⟨w16.heap.size, 1, none⟩ = some (.slice kp2 n3 kc2) := z1
                      have z2 := fun (y : After V16) => (y.cell KX2.lt).trans (KX2.cell 2)
                      have z2 : ∀ y : After V16, World.cell? y.w ⟨w16.heap.size, 2, none⟩ = some (.slice vp2 n4 vc2) := z2
                      have c1 := fun (y : After V16) => (y.cell (T1.got 0 _ rfl).1).trans (T1.got 0 _ rfl).2
                      have c2 := fun (y : After V16) => (y.cell (T1.got 1 _ rfl).1).trans (T1.got 1 _ rfl).2
                      have c3 := fun (y : After V16) => (y.cell (T2.got 0 _ rfl).1).trans (T2.got 0 _ rfl).2
                      have c4 := fun (y : After V16) => (y.cell (T2.got 1 _ rfl).1).trans (T2.got 1 _ rfl).2
                      have c5 := fun (y : After V16) => (y.cell (B1.got 0 _ rfl).1).trans (B1.got 0 _ rfl).2
                      have c6 := fun (y : After V16) => (y.cell (B1.got 1 _ rfl).1).trans (B1.got 1 _ rfl).2
                      have c7 := fun (y : After V16) => (y.cell (B2.got 0 _ rfl).1).trans (B2.got 0 _ rfl).2
                      have c8 := fun (y : After V16) => (y.cell (B2.got 1 _ rfl).1).trans (B2.got 1 _ rfl).2
                      have HQ0 := Lib.hid fun (y : After V16) => same_at ⟨1, xs, ys⟩ ⟨1, xs2, ys2⟩ true hxy n1 n2 n3 n4 hn1 hn2 hn3 hn4 kp1 vp1 kp2 vp2 kc1 vc1 kc2 vc2 y.w (P1.later y.bel) (Q1.later y.bel) (P2.later y.bel) (Q2.later y.bel) (by omega) (by omega) (by omega) (by omega)
                      clear hcur
                      have HKA := Lib.hid KA
                      have HKB := Lib.hid KB
                      have HKC := Lib.hid KC
                      have HP := Lib.hid P
                      have HQ := Lib.hid Q
                      have HP1 := Lib.hid P1
                      have HQ1 := Lib.hid Q1
                      have HT1 := Lib.hid T1
                      have HB1 := Lib.hid B1
                      have HKX1 := Lib.hid KX1
                      have HP2 := Lib.hid P2
                      have HQ2 := Lib.hid Q2
                      have HT2 := Lib.hid T2
                      have HB2 := Lib.hid B2
                      have HKX2 := Lib.hid KX2
                      have HhB := Lib.hid hB
                      have HhL := Lib.hid hL
                      have Hhr := Lib.hid hr
                      clear KA KB KC P Q P1 Q1 T1 B1 KX1 P2 Q2 T2 B2 KX2 hB hL hr
                      go_wp2_with fail
                      refine wp_region_after (by kernel_rfl) (by kernel_rfl) ?_
                      repeat (go_big_quiet_step (first | (go_at_call 12; with_reducible exact calls_after (HQ0.out _))))
                      refine wpQuiet_nil ?_
                      rintro _ ⟨y, rfl⟩
                      have KA := HKA.out
                      have KB := HKB.out
                      have KC := HKC.out
                      have P := HP.out
                      have Q := HQ.out
                      have P1 := HP1.out
                      have Q1 := HQ1.out
                      have T1 := HT1.out
                      have B1 := HB1.out
                      have KX1 := HKX1.out
                      have P2 := HP2.out
                      have Q2 := HQ2.out
                      have T2 := HT2.out
                      have B2 := HB2.out
                      have KX2 := HKX2.out
                      have hB := HhB.out
                      have hL := HhL.out
                      have hr := Hhr.out
                      clear HKA HKB HKC HP HQ HP1 HQ1 HT1 HB1 HKX1 HP2 HQ2 HT2 HB2 HKX2 HhB HhL Hhr
                      obtain ⟨w17, hX⟩ : ∃ X, X = y.w := ⟨_, rfl⟩
                      have hb := y.bel
                      rw [← hX] at hb
                      rw [← hX]
                      clear hX x0 x1 x2 z0 z1 z2 c1 c2 c3 c4 c5 c6 c7 c8 HQ0
                      clear y
                      replace KA := KA.later hb
                      replace KB := KB.later hb
                      replace KC := KC.later hb
                      replace P := P.later hb
                      replace Q := Q.later hb
                      replace P1 := P1.later hb
                      replace Q1 := Q1.later hb
                      replace T1 := T1.later hb
                      replace B1 := B1.later hb
                      replace KX1 := KX1.later hb
                      replace P2 := P2.later hb
                      replace Q2 := Q2.later hb
                      replace T2 := T2.later hb
                      replace B2 := B2.later hb
                      replace KX2 := KX2.later hb
                      replace hB := hB.trans (hb.mono hB.size)
                      replace hL := hL.trans (hb.mono hL.size)
                      replace hr := hr.trans (hb.mono hr.size)
                      clear hb
                      have hDD := HD.out
                      have HL1 := Lib.hid hL
                      clear KA KB KC P Q P1 Q1 T1 B1 KX1 P2 Q2 T2 B2 KX2 hB hL hr
                      go_wp2_with fail
                      go_roundw
                      case rel => exact ⟨2, false, by simp, by simp, by omega, Lib.hid ⟨fun _ hd => hDD.1 (by omega) hd, fun _ hd => (HDF.out hd Hhc.out Hhd.out).elim⟩, _, rfl, HL1.out⟩
                      case measure => simp [intOf]
                    case neg =>
                      have dhd : (i2 == j1) = false := by simp; exact hd
                      have ehd : (i2 != j1) = true := by simp; exact hd
                      clear hd
                      have hcur : Below V16.heap.size V16 V16 := Below.refl _ _
                      have x0 := fun (y : After V16) => (y.cell KX1.lt).trans (KX1.cell 0)
                      have x0 : ∀ y : After V16, World.cell? y.w ⟨w14.heap.size, 0, none⟩ = some (.int .i64 1) := x0
                      have x1 := fun (y : After V16) => (y.cell KX1.lt).trans (KX1.cell 1)
                      have x1 : ∀ y : After V16, World.cell? y.w ⟨w14.heap.size, 1, none⟩ = some (.slice kp1 n1 kc1) := x1
                      have x2 := fun (y : After V16) => (y.cell KX1.lt).trans (KX1.cell 2)
                      have x2 : ∀ y : After V16, World.cell? y.w ⟨w14.heap.size, 2, none⟩ = some (.slice vp1 n2 vc1) := x2
                      have z0 := fun (y : After V16) => (y.cell KX2.lt).trans (KX2.cell 0)
                      have z0 : ∀ y : After V16, World.cell? y.w ⟨w16.heap.size, 0, none⟩ = some (.int .i64 1) := z0
                      have z1 := fun (y : After V16) => (y.cell KX2.lt).trans (KX2.cell 1)
                      have z1 : ∀ y : After V16, World.cell? y.w ⟨w16.heap.size, 1, none⟩ = some (.slice kp2 n3 kc2) := z1
                      have z2 := fun (y : After V16) => (y.cell KX2.lt).trans (KX2.cell 2)
                      have z2 : ∀ y : After V16, World.cell? y.w ⟨w16.heap.size, 2, none⟩ = some (.slice vp2 n4 vc2) := z2
                      have c1 := fun (y : After V16) => (y.cell (T1.got 0 _ rfl).1).trans (T1.got 0 _ rfl).2
                      have c2 := fun (y : After V16) => (y.cell (T1.got 1 _ rfl).1).trans (T1.got 1 _ rfl).2
                      have c3 := fun (y : After V16) => (y.cell (T2.got 0 _ rfl).1).trans (T2.got 0 _ rfl).2
                      have c4 := fun (y : After V16) => (y.cell (T2.got 1 _ rfl).1).trans (T2.got 1 _ rfl).2
                      have c5 := fun (y : After V16) => (y.cell (B1.got 0 _ rfl).1).trans (B1.got 0 _ rfl).2
                      have c6 := fun (y : After V16) => (y.cell (B1.got 1 _ rfl).1).trans (B1.got 1 _ rfl).2
                      have c7 := fun (y : After V16) => (y.cell (B2.got 0 _ rfl).1).trans (B2.got 0 _ rfl).2
                      have c8 := fun (y : After V16) => (y.cell (B2.got 1 _ rfl).1).trans (B2.got 1 _ rfl).2
                      have HQ0 := Lib.hid fun (y : After V16) => same_at ⟨1, xs, ys⟩ ⟨1, xs2, ys2⟩ true hxy n1 n2 n3 n4 hn1 hn2 hn3 hn4 kp1 vp1 kp2 vp2 kc1 vc1 kc2 vc2 y.w (P1.later y.bel) (Q1.later y.bel) (P2.later y.bel) (Q2.later y.bel) (by omega) (by omega) (by omega) (by omega)
                      clear hcur
                      have HKA := Lib.hid KA
                      have HKB := Lib.hid KB
                      have HKC := Lib.hid KC
                      have HP := Lib.hid P
                      have HQ := Lib.hid Q
                      have HP1 := Lib.hid P1
                      have HQ1 := Lib.hid Q1
                      have HT1 := Lib.hid T1
                      have HB1 := Lib.hid B1
                      have HKX1 := Lib.hid KX1
                      have HP2 := Lib.hid P2
                      have HQ2 := Lib.hid Q2
                      have HT2 := Lib.hid T2
                      have HB2 := Lib.hid B2
                      have HKX2 := Lib.hid KX2
                      have HhB := Lib.hid hB
                      have HhL := Lib.hid hL
                      have Hhr := Lib.hid hr
                      clear KA KB KC P Q P1 Q1 T1 B1 KX1 P2 Q2 T2 B2 KX2 hB hL hr
                      go_wp2_with fail
                      refine wp_region_after (by kernel_rfl) (by kernel_rfl) ?_
                      repeat (go_big_quiet_step (first | (go_at_call 12; with_reducible exact calls_after (HQ0.out _))))
                      refine wpQuiet_nil ?_
                      rintro _ ⟨y, rfl⟩
                      have KA := HKA.out
                      have KB := HKB.out
                      have KC := HKC.out
                      have P := HP.out
                      have Q := HQ.out
                      have P1 := HP1.out
                      have Q1 := HQ1.out
                      have T1 := HT1.out
                      have B1 := HB1.out
                      have KX1 := HKX1.out
                      have P2 := HP2.out
                      have Q2 := HQ2.out
                      have T2 := HT2.out
                      have B2 := HB2.out
                      have KX2 := HKX2.out
                      have hB := HhB.out
                      have hL := HhL.out
                      have hr := Hhr.out
                      clear HKA HKB HKC HP HQ HP1 HQ1 HT1 HB1 HKX1 HP2 HQ2 HT2 HB2 HKX2 HhB HhL Hhr
                      obtain ⟨w17, hX⟩ : ∃ X, X = y.w := ⟨_, rfl⟩
                      have hb := y.bel
                      rw [← hX] at hb
                      rw [← hX]
                      clear hX x0 x1 x2 z0 z1 z2 c1 c2 c3 c4 c5 c6 c7 c8 HQ0
                      clear y
                      replace KA := KA.later hb
                      replace KB := KB.later hb
                      replace KC := KC.later hb
                      replace P := P.later hb
                      replace Q := Q.later hb
                      replace P1 := P1.later hb
                      replace Q1 := Q1.later hb
                      replace T1 := T1.later hb
                      replace B1 := B1.later hb
                      replace KX1 := KX1.later hb
                      replace P2 := P2.later hb
                      replace Q2 := Q2.later hb
                      replace T2 := T2.later hb
                      replace B2 := B2.later hb
                      replace KX2 := KX2.later hb
                      replace hB := hB.trans (hb.mono hB.size)
                      replace hL := hL.trans (hb.mono hL.size)
                      replace hr := hr.trans (hb.mono hr.size)
                      clear hb
                      have hDD := HD.out
                      have HL1 := Lib.hid hL
                      clear KA KB KC P Q P1 Q1 T1 B1 KX1 P2 Q2 T2 B2 KX2 hB hL hr
                      go_wp2_with fail
                      go_roundw
                      case rel => exact ⟨2, true, by simp, by simp, by omega, Lib.hid ⟨fun _ _ => rfl, fun _ _ => rfl⟩, _, rfl, HL1.out⟩
                      case measure => simp [intOf]
                  case neg =>
                    have dhc : (i1 == j2) = false := by simp; exact hc
                    have ehc : (i1 != j2) = true := by simp; exact hc
                    clear hc
                    have hcur : Below V16.heap.size V16 V16 := Below.refl _ _
                    have x0 := fun (y : After V16) => (y.cell KX1.lt).trans (KX1.cell 0)
                    have x0 : ∀ y : After V16, World.cell? y.w ⟨w14.heap.size, 0, none⟩ = some (.int .i64 1) := x0
                    have x1 := fun (y : After V16) => (y.cell KX1.lt).trans (KX1.cell 1)
                    have x1 : ∀ y : After V16, World.cell? y.w ⟨w14.heap.size, 1, none⟩ = some (.slice kp1 n1 kc1) := x1
                    have x2 := fun (y : After V16) => (y.cell KX1.lt).trans (KX1.cell 2)
                    have x2 : ∀ y : After V16, World.cell? y.w ⟨w14.heap.size, 2, none⟩ = some (.slice vp1 n2 vc1) := x2
                    have z0 := fun (y : After V16) => (y.cell KX2.lt).trans (KX2.cell 0)
                    have z0 : ∀ y : After V16, World.cell? y.w ⟨w16.heap.size, 0, none⟩ = some (.int .i64 1) := z0
                    have z1 := fun (y : After V16) => (y.cell KX2.lt).trans (KX2.cell 1)
                    have z1 : ∀ y : After V16, World.cell? y.w ⟨w16.heap.size, 1, none⟩ = some (.slice kp2 n3 kc2) := z1
                    have z2 := fun (y : After V16) => (y.cell KX2.lt).trans (KX2.cell 2)
                    have z2 : ∀ y : After V16, World.cell? y.w ⟨w16.heap.size, 2, none⟩ = some (.slice vp2 n4 vc2) := z2
                    have c1 := fun (y : After V16) => (y.cell (T1.got 0 _ rfl).1).trans (T1.got 0 _ rfl).2
                    have c2 := fun (y : After V16) => (y.cell (T1.got 1 _ rfl).1).trans (T1.got 1 _ rfl).2
                    have c3 := fun (y : After V16) => (y.cell (T2.got 0 _ rfl).1).trans (T2.got 0 _ rfl).2
                    have c4 := fun (y : After V16) => (y.cell (T2.got 1 _ rfl).1).trans (T2.got 1 _ rfl).2
                    have c5 := fun (y : After V16) => (y.cell (B1.got 0 _ rfl).1).trans (B1.got 0 _ rfl).2
                    have c6 := fun (y : After V16) => (y.cell (B1.got 1 _ rfl).1).trans (B1.got 1 _ rfl).2
                    have c7 := fun (y : After V16) => (y.cell (B2.got 0 _ rfl).1).trans (B2.got 0 _ rfl).2
                    have c8 := fun (y : After V16) => (y.cell (B2.got 1 _ rfl).1).trans (B2.got 1 _ rfl).2
                    have HQ0 := Lib.hid fun (y : After V16) => same_at ⟨1, xs, ys⟩ ⟨1, xs2, ys2⟩ true hxy n1 n2 n3 n4 hn1 hn2 hn3 hn4 kp1 vp1 kp2 vp2 kc1 vc1 kc2 vc2 y.w (P1.later y.bel) (Q1.later y.bel) (P2.later y.bel) (Q2.later y.bel) (by omega) (by omega) (by omega) (by omega)
                    clear hcur
                    have HKA := Lib.hid KA
                    have HKB := Lib.hid KB
                    have HKC := Lib.hid KC
                    have HP := Lib.hid P
                    have HQ := Lib.hid Q
                    have HP1 := Lib.hid P1
                    have HQ1 := Lib.hid Q1
                    have HT1 := Lib.hid T1
                    have HB1 := Lib.hid B1
                    have HKX1 := Lib.hid KX1
                    have HP2 := Lib.hid P2
                    have HQ2 := Lib.hid Q2
                    have HT2 := Lib.hid T2
                    have HB2 := Lib.hid B2
                    have HKX2 := Lib.hid KX2
                    have HhB := Lib.hid hB
                    have HhL := Lib.hid hL
                    have Hhr := Lib.hid hr
                    clear KA KB KC P Q P1 Q1 T1 B1 KX1 P2 Q2 T2 B2 KX2 hB hL hr
                    go_wp2_with fail
                    refine wp_region_after (by kernel_rfl) (by kernel_rfl) ?_
                    repeat (go_big_quiet_step (first | (go_at_call 12; with_reducible exact calls_after (HQ0.out _))))
                    refine wpQuiet_nil ?_
                    rintro _ ⟨y, rfl⟩
                    have KA := HKA.out
                    have KB := HKB.out
                    have KC := HKC.out
                    have P := HP.out
                    have Q := HQ.out
                    have P1 := HP1.out
                    have Q1 := HQ1.out
                    have T1 := HT1.out
                    have B1 := HB1.out
                    have KX1 := HKX1.out
                    have P2 := HP2.out
                    have Q2 := HQ2.out
                    have T2 := HT2.out
                    have B2 := HB2.out
                    have KX2 := HKX2.out
                    have hB := HhB.out
                    have hL := HhL.out
                    have hr := Hhr.out
                    clear HKA HKB HKC HP HQ HP1 HQ1 HT1 HB1 HKX1 HP2 HQ2 HT2 HB2 HKX2 HhB HhL Hhr
                    obtain ⟨w17, hX⟩ : ∃ X, X = y.w := ⟨_, rfl⟩
                    have hb := y.bel
                    rw [← hX] at hb
                    rw [← hX]
                    clear hX x0 x1 x2 z0 z1 z2 c1 c2 c3 c4 c5 c6 c7 c8 HQ0
                    clear y
                    replace KA := KA.later hb
                    replace KB := KB.later hb
                    replace KC := KC.later hb
                    replace P := P.later hb
                    replace Q := Q.later hb
                    replace P1 := P1.later hb
                    replace Q1 := Q1.later hb
                    replace T1 := T1.later hb
                    replace B1 := B1.later hb
                    replace KX1 := KX1.later hb
                    replace P2 := P2.later hb
                    replace Q2 := Q2.later hb
                    replace T2 := T2.later hb
                    replace B2 := B2.later hb
                    replace KX2 := KX2.later hb
                    replace hB := hB.trans (hb.mono hB.size)
                    replace hL := hL.trans (hb.mono hL.size)
                    replace hr := hr.trans (hb.mono hr.size)
                    clear hb
                    have hDD := HD.out
                    have HL1 := Lib.hid hL
                    clear KA KB KC P Q P1 Q1 T1 B1 KX1 P2 Q2 T2 B2 KX2 hB hL hr
                    go_wp2_with fail
                    go_roundw
                    case rel => exact ⟨2, true, by simp, by simp, by omega, Lib.hid ⟨fun _ _ => rfl, fun _ _ => rfl⟩, _, rfl, HL1.out⟩
                    case measure => simp [intOf]
                case neg =>
                  have dhb : (t2 == u1) = false := by simp; exact hb
                  have ehb : (t2 != u1) = true := by simp; exact hb
                  clear hb
                  have hcur : Below V16.heap.size V16 V16 := Below.refl _ _
                  have x0 := fun (y : After V16) => (y.cell KX1.lt).trans (KX1.cell 0)
                  have x0 : ∀ y : After V16, World.cell? y.w ⟨w14.heap.size, 0, none⟩ = some (.int .i64 1) := x0
                  have x1 := fun (y : After V16) => (y.cell KX1.lt).trans (KX1.cell 1)
                  have x1 : ∀ y : After V16, World.cell? y.w ⟨w14.heap.size, 1, none⟩ = some (.slice kp1 n1 kc1) := x1
                  have x2 := fun (y : After V16) => (y.cell KX1.lt).trans (KX1.cell 2)
                  have x2 : ∀ y : After V16, World.cell? y.w ⟨w14.heap.size, 2, none⟩ = some (.slice vp1 n2 vc1) := x2
                  have z0 := fun (y : After V16) => (y.cell KX2.lt).trans (KX2.cell 0)
                  have z0 : ∀ y : After V16, World.cell? y.w ⟨w16.heap.size, 0, none⟩ = some (.int .i64 1) := z0
                  have z1 := fun (y : After V16) => (y.cell KX2.lt).trans (KX2.cell 1)
                  have z1 : ∀ y : After V16, World.cell? y.w ⟨w16.heap.size, 1, none⟩ = some (.slice kp2 n3 kc2) := z1
                  have z2 := fun (y : After V16) => (y.cell KX2.lt).trans (KX2.cell 2)
                  have z2 : ∀ y : After V16, World.cell? y.w ⟨w16.heap.size, 2, none⟩ = some (.slice vp2 n4 vc2) := z2
                  have c1 := fun (y : After V16) => (y.cell (T1.got 0 _ rfl).1).trans (T1.got 0 _ rfl).2
                  have c2 := fun (y : After V16) => (y.cell (T1.got 1 _ rfl).1).trans (T1.got 1 _ rfl).2
                  have c3 := fun (y : After V16) => (y.cell (T2.got 0 _ rfl).1).trans (T2.got 0 _ rfl).2
                  have c4 := fun (y : After V16) => (y.cell (T2.got 1 _ rfl).1).trans (T2.got 1 _ rfl).2
                  have c5 := fun (y : After V16) => (y.cell (B1.got 0 _ rfl).1).trans (B1.got 0 _ rfl).2
                  have c6 := fun (y : After V16) => (y.cell (B1.got 1 _ rfl).1).trans (B1.got 1 _ rfl).2
                  have c7 := fun (y : After V16) => (y.cell (B2.got 0 _ rfl).1).trans (B2.got 0 _ rfl).2
                  have c8 := fun (y : After V16) => (y.cell (B2.got 1 _ rfl).1).trans (B2.got 1 _ rfl).2
                  have HQ0 := Lib.hid fun (y : After V16) => same_at ⟨1, xs, ys⟩ ⟨1, xs2, ys2⟩ true hxy n1 n2 n3 n4 hn1 hn2 hn3 hn4 kp1 vp1 kp2 vp2 kc1 vc1 kc2 vc2 y.w (P1.later y.bel) (Q1.later y.bel) (P2.later y.bel) (Q2.later y.bel) (by omega) (by omega) (by omega) (by omega)
                  clear hcur
                  have HKA := Lib.hid KA
                  have HKB := Lib.hid KB
                  have HKC := Lib.hid KC
                  have HP := Lib.hid P
                  have HQ := Lib.hid Q
                  have HP1 := Lib.hid P1
                  have HQ1 := Lib.hid Q1
                  have HT1 := Lib.hid T1
                  have HB1 := Lib.hid B1
                  have HKX1 := Lib.hid KX1
                  have HP2 := Lib.hid P2
                  have HQ2 := Lib.hid Q2
                  have HT2 := Lib.hid T2
                  have HB2 := Lib.hid B2
                  have HKX2 := Lib.hid KX2
                  have HhB := Lib.hid hB
                  have HhL := Lib.hid hL
                  have Hhr := Lib.hid hr
                  clear KA KB KC P Q P1 Q1 T1 B1 KX1 P2 Q2 T2 B2 KX2 hB hL hr
                  go_wp2_with fail
                  refine wp_region_after (by kernel_rfl) (by kernel_rfl) ?_
                  repeat (go_big_quiet_step (first | (go_at_call 12; with_reducible exact calls_after (HQ0.out _))))
                  refine wpQuiet_nil ?_
                  rintro _ ⟨y, rfl⟩
                  have KA := HKA.out
                  have KB := HKB.out
                  have KC := HKC.out
                  have P := HP.out
                  have Q := HQ.out
                  have P1 := HP1.out
                  have Q1 := HQ1.out
                  have T1 := HT1.out
                  have B1 := HB1.out
                  have KX1 := HKX1.out
                  have P2 := HP2.out
                  have Q2 := HQ2.out
                  have T2 := HT2.out
                  have B2 := HB2.out
                  have KX2 := HKX2.out
                  have hB := HhB.out
                  have hL := HhL.out
                  have hr := Hhr.out
                  clear HKA HKB HKC HP HQ HP1 HQ1 HT1 HB1 HKX1 HP2 HQ2 HT2 HB2 HKX2 HhB HhL Hhr
                  obtain ⟨w17, hX⟩ : ∃ X, X = y.w := ⟨_, rfl⟩
                  have hb := y.bel
                  rw [← hX] at hb
                  rw [← hX]
                  clear hX x0 x1 x2 z0 z1 z2 c1 c2 c3 c4 c5 c6 c7 c8 HQ0
                  clear y
                  replace KA := KA.later hb
                  replace KB := KB.later hb
                  replace KC := KC.later hb
                  replace P := P.later hb
                  replace Q := Q.later hb
                  replace P1 := P1.later hb
                  replace Q1 := Q1.later hb
                  replace T1 := T1.later hb
                  replace B1 := B1.later hb
                  replace KX1 := KX1.later hb
                  replace P2 := P2.later hb
                  replace Q2 := Q2.later hb
                  replace T2 := T2.later hb
                  replace B2 := B2.later hb
                  replace KX2 := KX2.later hb
                  replace hB := hB.trans (hb.mono hB.size)
                  replace hL := hL.trans (hb.mono hL.size)
                  replace hr := hr.trans (hb.mono hr.size)
                  clear hb
                  have hDD := HD.out
                  have HL1 := Lib.hid hL
                  clear KA KB KC P Q P1 Q1 T1 B1 KX1 P2 Q2 T2 B2 KX2 hB hL hr
                  go_wp2_with fail
                  go_roundw
                  case rel => exact ⟨2, true, by simp, by simp, by omega, Lib.hid ⟨fun _ _ => rfl, fun _ _ => rfl⟩, _, rfl, HL1.out⟩
                  case measure => simp [intOf]
              case neg =>
                have dha : (t1 == u2) = false := by simp; exact ha
                have eha : (t1 != u2) = true := by simp; exact ha
                clear ha
                have hcur : Below V16.heap.size V16 V16 := Below.refl _ _
                have x0 := fun (y : After V16) => (y.cell KX1.lt).trans (KX1.cell 0)
                have x0 : ∀ y : After V16, World.cell? y.w ⟨w14.heap.size, 0, none⟩ = some (.int .i64 1) := x0
                have x1 := fun (y : After V16) => (y.cell KX1.lt).trans (KX1.cell 1)
                have x1 : ∀ y : After V16, World.cell? y.w ⟨w14.heap.size, 1, none⟩ = some (.slice kp1 n1 kc1) := x1
                have x2 := fun (y : After V16) => (y.cell KX1.lt).trans (KX1.cell 2)
                have x2 : ∀ y : After V16, World.cell? y.w ⟨w14.heap.size, 2, none⟩ = some (.slice vp1 n2 vc1) := x2
                have z0 := fun (y : After V16) => (y.cell KX2.lt).trans (KX2.cell 0)
                have z0 : ∀ y : After V16, World.cell? y.w ⟨w16.heap.size, 0, none⟩ = some (.int .i64 1) := z0
                have z1 := fun (y : After V16) => (y.cell KX2.lt).trans (KX2.cell 1)
                have z1 : ∀ y : After V16, World.cell? y.w ⟨w16.heap.size, 1, none⟩ = some (.slice kp2 n3 kc2) := z1
                have z2 := fun (y : After V16) => (y.cell KX2.lt).trans (KX2.cell 2)
                have z2 : ∀ y : After V16, World.cell? y.w ⟨w16.heap.size, 2, none⟩ = some (.slice vp2 n4 vc2) := z2
                have c1 := fun (y : After V16) => (y.cell (T1.got 0 _ rfl).1).trans (T1.got 0 _ rfl).2
                have c2 := fun (y : After V16) => (y.cell (T1.got 1 _ rfl).1).trans (T1.got 1 _ rfl).2
                have c3 := fun (y : After V16) => (y.cell (T2.got 0 _ rfl).1).trans (T2.got 0 _ rfl).2
                have c4 := fun (y : After V16) => (y.cell (T2.got 1 _ rfl).1).trans (T2.got 1 _ rfl).2
                have c5 := fun (y : After V16) => (y.cell (B1.got 0 _ rfl).1).trans (B1.got 0 _ rfl).2
                have c6 := fun (y : After V16) => (y.cell (B1.got 1 _ rfl).1).trans (B1.got 1 _ rfl).2
                have c7 := fun (y : After V16) => (y.cell (B2.got 0 _ rfl).1).trans (B2.got 0 _ rfl).2
                have c8 := fun (y : After V16) => (y.cell (B2.got 1 _ rfl).1).trans (B2.got 1 _ rfl).2
                have HQ0 := Lib.hid fun (y : After V16) => same_at ⟨1, xs, ys⟩ ⟨1, xs2, ys2⟩ true hxy n1 n2 n3 n4 hn1 hn2 hn3 hn4 kp1 vp1 kp2 vp2 kc1 vc1 kc2 vc2 y.w (P1.later y.bel) (Q1.later y.bel) (P2.later y.bel) (Q2.later y.bel) (by omega) (by omega) (by omega) (by omega)
                clear hcur
                have HKA := Lib.hid KA
                have HKB := Lib.hid KB
                have HKC := Lib.hid KC
                have HP := Lib.hid P
                have HQ := Lib.hid Q
                have HP1 := Lib.hid P1
                have HQ1 := Lib.hid Q1
                have HT1 := Lib.hid T1
                have HB1 := Lib.hid B1
                have HKX1 := Lib.hid KX1
                have HP2 := Lib.hid P2
                have HQ2 := Lib.hid Q2
                have HT2 := Lib.hid T2
                have HB2 := Lib.hid B2
                have HKX2 := Lib.hid KX2
                have HhB := Lib.hid hB
                have HhL := Lib.hid hL
                have Hhr := Lib.hid hr
                clear KA KB KC P Q P1 Q1 T1 B1 KX1 P2 Q2 T2 B2 KX2 hB hL hr
                go_wp2_with fail
                refine wp_region_after (by kernel_rfl) (by kernel_rfl) ?_
                repeat (go_big_quiet_step (first | (go_at_call 12; with_reducible exact calls_after (HQ0.out _))))
                refine wpQuiet_nil ?_
                rintro _ ⟨y, rfl⟩
                have KA := HKA.out
                have KB := HKB.out
                have KC := HKC.out
                have P := HP.out
                have Q := HQ.out
                have P1 := HP1.out
                have Q1 := HQ1.out
                have T1 := HT1.out
                have B1 := HB1.out
                have KX1 := HKX1.out
                have P2 := HP2.out
                have Q2 := HQ2.out
                have T2 := HT2.out
                have B2 := HB2.out
                have KX2 := HKX2.out
                have hB := HhB.out
                have hL := HhL.out
                have hr := Hhr.out
                clear HKA HKB HKC HP HQ HP1 HQ1 HT1 HB1 HKX1 HP2 HQ2 HT2 HB2 HKX2 HhB HhL Hhr
                obtain ⟨w17, hX⟩ : ∃ X, X = y.w := ⟨_, rfl⟩
                have hb := y.bel
                rw [← hX] at hb
                rw [← hX]
                clear hX x0 x1 x2 z0 z1 z2 c1 c2 c3 c4 c5 c6 c7 c8 HQ0
                clear y
                replace KA := KA.later hb
                replace KB := KB.later hb
                replace KC := KC.later hb
                replace P := P.later hb
                replace Q := Q.later hb
                replace P1 := P1.later hb
                replace Q1 := Q1.later hb
                replace T1 := T1.later hb
                replace B1 := B1.later hb
                replace KX1 := KX1.later hb
                replace P2 := P2.later hb
                replace Q2 := Q2.later hb
                replace T2 := T2.later hb
                replace B2 := B2.later hb
                replace KX2 := KX2.later hb
                replace hB := hB.trans (hb.mono hB.size)
                replace hL := hL.trans (hb.mono hL.size)
                replace hr := hr.trans (hb.mono hr.size)
                clear hb
                have hDD := HD.out
                have HL1 := Lib.hid hL
                clear KA KB KC P Q P1 Q1 T1 B1 KX1 P2 Q2 T2 B2 KX2 hB hL hr
                go_wp2_with fail
                go_roundw
                case rel => exact ⟨2, true, by simp, by simp, by omega, Lib.hid ⟨fun _ _ => rfl, fun _ _ => rfl⟩, _, rfl, HL1.out⟩
                case measure => simp [intOf]
          case true =>
            have hcur : Below V16.heap.size V16 V16 := Below.refl _ _
            have x0 := fun (y : After V16) => (y.cell KX1.lt).trans (KX1.cell 0)
            have x0 : ∀ y : After V16, World.cell? y.w ⟨w14.heap.size, 0, none⟩ = some (.int .i64 1) := x0
            have x1 := fun (y : After V16) => (y.cell KX1.lt).trans (KX1.cell 1)
            have x1 : ∀ y : After V16, World.cell? y.w ⟨w14.heap.size, 1, none⟩ = some (.slice kp1 n1 kc1) := x1
            have x2 := fun (y : After V16) => (y.cell KX1.lt).trans (KX1.cell 2)
            have x2 : ∀ y : After V16, World.cell? y.w ⟨w14.heap.size, 2, none⟩ = some (.slice vp1 n2 vc1) := x2
            have z0 := fun (y : After V16) => (y.cell KX2.lt).trans (KX2.cell 0)
            have z0 : ∀ y : After V16, World.cell? y.w ⟨w16.heap.size, 0, none⟩ = some (.int .i64 1) := z0
            have z1 := fun (y : After V16) => (y.cell KX2.lt).trans (KX2.cell 1)
            have z1 : ∀ y : After V16, World.cell? y.w ⟨w16.heap.size, 1, none⟩ = some (.slice kp2 n3 kc2) := z1
            have z2 := fun (y : After V16) => (y.cell KX2.lt).trans (KX2.cell 2)
            have z2 : ∀ y : After V16, World.cell? y.w ⟨w16.heap.size, 2, none⟩ = some (.slice vp2 n4 vc2) := z2
            have c1 := fun (y : After V16) => (y.cell (T1.got 0 _ rfl).1).trans (T1.got 0 _ rfl).2
            have c2 := fun (y : After V16) => (y.cell (T1.got 1 _ rfl).1).trans (T1.got 1 _ rfl).2
            have c3 := fun (y : After V16) => (y.cell (T2.got 0 _ rfl).1).trans (T2.got 0 _ rfl).2
            have c4 := fun (y : After V16) => (y.cell (T2.got 1 _ rfl).1).trans (T2.got 1 _ rfl).2
            have c5 := fun (y : After V16) => (y.cell (B1.got 0 _ rfl).1).trans (B1.got 0 _ rfl).2
            have c6 := fun (y : After V16) => (y.cell (B1.got 1 _ rfl).1).trans (B1.got 1 _ rfl).2
            have c7 := fun (y : After V16) => (y.cell (B2.got 0 _ rfl).1).trans (B2.got 0 _ rfl).2
            have c8 := fun (y : After V16) => (y.cell (B2.got 1 _ rfl).1).trans (B2.got 1 _ rfl).2
            clear hcur
            have HKA := Lib.hid KA
            have HKB := Lib.hid KB
            have HKC := Lib.hid KC
            have HP := Lib.hid P
            have HQ := Lib.hid Q
            have HP1 := Lib.hid P1
            have HQ1 := Lib.hid Q1
            have HT1 := Lib.hid T1
            have HB1 := Lib.hid B1
            have HKX1 := Lib.hid KX1
            have HP2 := Lib.hid P2
            have HQ2 := Lib.hid Q2
            have HT2 := Lib.hid T2
            have HB2 := Lib.hid B2
            have HKX2 := Lib.hid KX2
            have HhB := Lib.hid hB
            have HhL := Lib.hid hL
            have Hhr := Lib.hid hr
            clear KA KB KC P Q P1 Q1 T1 B1 KX1 P2 Q2 T2 B2 KX2 hB hL hr
            go_wp2_with fail
            refine wp_region_after (by kernel_rfl) (by kernel_rfl) ?_
            repeat (go_big_quiet_step (fail))
            refine wpQuiet_nil ?_
            rintro _ ⟨y, rfl⟩
            have KA := HKA.out
            have KB := HKB.out
            have KC := HKC.out
            have P := HP.out
            have Q := HQ.out
            have P1 := HP1.out
            have Q1 := HQ1.out
            have T1 := HT1.out
            have B1 := HB1.out
            have KX1 := HKX1.out
            have P2 := HP2.out
            have Q2 := HQ2.out
            have T2 := HT2.out
            have B2 := HB2.out
            have KX2 := HKX2.out
            have hB := HhB.out
            have hL := HhL.out
            have hr := Hhr.out
            clear HKA HKB HKC HP HQ HP1 HQ1 HT1 HB1 HKX1 HP2 HQ2 HT2 HB2 HKX2 HhB HhL Hhr
            obtain ⟨w17, hX⟩ : ∃ X, X = y.w := ⟨_, rfl⟩
            have hb := y.bel
            rw [← hX] at hb
            rw [← hX]
            clear hX x0 x1 x2 z0 z1 z2 c1 c2 c3 c4 c5 c6 c7 c8
            clear y
            replace KA := KA.later hb
            replace KB := KB.later hb
            replace KC := KC.later hb
            replace P := P.later hb
            replace Q := Q.later hb
            replace P1 := P1.later hb
            replace Q1 := Q1.later hb
            replace T1 := T1.later hb
            replace B1 := B1.later hb
            replace KX1 := KX1.later hb
            replace P2 := P2.later hb
            replace Q2 := Q2.later hb
            replace T2 := T2.later hb
            replace B2 := B2.later hb
            replace KX2 := KX2.later hb
            replace hB := hB.trans (hb.mono hB.size)
            replace hL := hL.trans (hb.mono hL.size)
            replace hr := hr.trans (hb.mono hr.size)
            clear hb
            have hDD := HD.out
            have HL1 := Lib.hid hL
            clear KA KB KC P Q P1 Q1 T1 B1 KX1 P2 Q2 T2 B2 KX2 hB hL hr
            go_wp2_with fail
            go_roundw
            case rel => exact ⟨2, true, by simp, by simp, by omega, Lib.hid ⟨fun _ _ => rfl, fun _ _ => rfl⟩, _, rfl, HL1.out⟩
            case measure => simp [intOf]
      case neg =>
        obtain rfl : m = 2 := by omega
        have hs : sb = true := by
          rcases HP.out with h | h
          · exact HD.out.1 (by omega) h
          · exact HD.out.2 (by omega) h
        subst hs
        clear KAr KBr
        have HKA := Lib.hid KA
        have HKB := Lib.hid KB
        have HhB := Lib.hid hB
        have HhL := Lib.hid hL
        have Hhr := Lib.hid hr
        clear KA KB hB hL hr
        go_wp2_with fail
        have KA := HKA.out
        have KB := HKB.out
        have hB := HhB.out
        have hL := HhL.out
        have hr := Hhr.out
        clear HKA HKB HhB HhL Hhr
        go_ret
        exact ⟨rfl, hB⟩
end Go.Proofs.Ythbpoagkfpalfaa
