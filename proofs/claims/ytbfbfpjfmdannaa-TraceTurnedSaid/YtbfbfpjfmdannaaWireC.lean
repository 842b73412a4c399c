/-
  WIRE: the contracts of the document's Same, Ints; of Sum, Text, Nums, Seal.
-/
import Derived.Test.YtbfbfpjfmdannaaWireB
import Derived.Deep.QuietTactic
import Derived.BigQuiet
import Derived.WalkSmall
import Derived.Lib.AppendStr
import Derived.Laws.AppendOwnNone
namespace Go.Proofs.Ytbfbfpjfmdannaa
open Go.ChangeShapes Go.WideShapes Go.ChangeAt Go.RowKit Go.Lib

theorem same_of {xs ys : List Int} (h : xs.length = ys.length) (k : Nat) (hk : xs.length ≤ k) (e : ∀ j, j < k → xs[j]? = ys[j]?) : xs = ys := by
  apply List.ext_getElem? 
  intro i
  by_cases hi : i < xs.length
  · exact e i (by omega)
  · rw [List.getElem?_eq_none (by omega), List.getElem?_eq_none (by omega)]

set_option maxHeartbeats 1000000 in
theorem rSame_any (p q : Option Addr) (xs ys : List Int) (c d : Nat) (w : World) (hx : Byts w p xs) (hy : Byts w q ys) (hl : xs.length ≤ 1000000) (hl2 : ys.length ≤ 1000000) :
    Calls Try.prog 11 #[.slice p xs.length c, .slice q ys.length d] w fun e w' => e = .returned (.bool (decide (xs = ys))) ∧ Below w.heap.size w w' := by
  by_cases hlen : xs.length = ys.length
  · have hl0 : (xs.length == ys.length) = true := by simpa using hlen
    have HL := Lib.hid hlen
    obtain ⟨n, hn⟩ : ∃ n, xs.length = n := ⟨_, rfl⟩
    have hn2 : ys.length = n := by omega
    have HN := Lib.hid hn
    have HN2 := Lib.hid hn2
    rw [hn] at hl; rw [hn, hn2]
    clear hl0 hlen hl2 hn hn2
    go_enter Try.func11, Try.ntmps11
    go_wp2_with fail
    go_loopw [5] (fun i wr => ∃ k : Nat, k ≤ n ∧ i = .int .i64 k ∧ Below w.heap.size w wr ∧ ∀ j, j < k → xs[j]? = ys[j]?) (fun i _ => n - (intOf i).toNat)
    case atStart => exact ⟨0, Nat.zero_le _, rfl, Below.refl _ _, fun j hj => by omega⟩
    case round =>
      obtain ⟨k, hk, rfl, hb, he⟩ := hrel
      by_cases hlt : k < n
      · obtain ⟨b1, o1, x, h1, _, c1, ex, _⟩ := (hx.later hb).at_ k (by rw [HN.out]; exact hlt)
        obtain ⟨b2, o2, y, h2, _, c2, ey, _⟩ := (hy.later hb).at_ k (by rw [HN2.out]; exact hlt)
        subst h1 h2
        have HE := Lib.hid he
        have EX := Lib.hid ex
        have EY := Lib.hid ey
        clear he ex ey
        by_cases hxy : x = y
        · subst hxy
          go_wp2_with fail
          go_quiet (fail)
          go_wp2_with fail
          go_roundw
          case rel =>
            refine ⟨k + 1, by omega, by go_num, below_drewN hb _, fun j hj => ?_⟩
            by_cases hjk : j = k
            · subst hjk; rw [EX.out, EY.out]
            · exact HE.out j (by omega)
          case measure => simp [intOf]; omega
        · have hne : (x == y) = false := by simpa using hxy
          have hd : decide (xs = ys) = false := by
            rw [decide_eq_false_iff_not]; intro e
            have h1 := EX.out; rw [e, EY.out] at h1
            exact hxy (by injection h1 with h1; exact h1.symm)
          have HD := Lib.hid hd
          clear hd hxy
          go_wp2_with fail
          go_quiet (fail)
          go_wp2_with fail
          go_ret
          exact ⟨by rw [HD.out]; rfl, below_drewN hb _⟩
      · obtain rfl : k = n := by omega
        have hd : decide (xs = ys) = true := by
          rw [decide_eq_true_eq]; exact same_of HL.out k (by rw [HN.out]; omega) he
        have HD := Lib.hid hd
        clear hd he
        go_wp2_with fail
        go_ret
        exact ⟨by rw [HD.out]; rfl, hb⟩
  · have hne : ((xs.length : Int) == (ys.length : Int)) = false := by simp; omega
    have hd : decide (xs = ys) = false := by rw [decide_eq_false_iff_not]; intro e; exact hlen (by rw [e])
    have HD := Lib.hid hd
    clear hd hlen
    go_enter Try.func11, Try.ntmps11
    go_wp2_with fail
    go_ret
    exact ⟨by rw [HD.out]; rfl, Below.refl _ _⟩

set_option maxHeartbeats 1000000 in
theorem rInts_any (p q : Option Addr) (xs ys : List Int) (c d : Nat) (w : World) (hx : Ints w p xs) (hy : Ints w q ys) (hl : xs.length ≤ 1000000) (hl2 : ys.length ≤ 1000000) :
    Calls Try.prog 22 #[.slice p xs.length c, .slice q ys.length d] w fun e w' => e = .returned (.bool (decide (xs = ys))) ∧ Below w.heap.size w w' := by
  by_cases hlen : xs.length = ys.length
  · have hl0 : (xs.length == ys.length) = true := by simpa using hlen
    have HL := Lib.hid hlen
    obtain ⟨n, hn⟩ : ∃ n, xs.length = n := ⟨_, rfl⟩
    have hn2 : ys.length = n := by omega
    have HN := Lib.hid hn
    have HN2 := Lib.hid hn2
    rw [hn] at hl; rw [hn, hn2]
    clear hl0 hlen hl2 hn hn2
    go_enter Try.func22, Try.ntmps22
    go_wp2_with fail
    go_loopw [5] (fun i wr => ∃ k : Nat, k ≤ n ∧ i = .int .i64 k ∧ Below w.heap.size w wr ∧ ∀ j, j < k → xs[j]? = ys[j]?) (fun i _ => n - (intOf i).toNat)
    case atStart => exact ⟨0, Nat.zero_le _, rfl, Below.refl _ _, fun j hj => by omega⟩
    case round =>
      obtain ⟨k, hk, rfl, hb, he⟩ := hrel
      by_cases hlt : k < n
      · obtain ⟨b1, o1, x, h1, _, c1, ex, _⟩ := (hx.later hb).at_ k (by rw [HN.out]; exact hlt)
        obtain ⟨b2, o2, y, h2, _, c2, ey, _⟩ := (hy.later hb).at_ k (by rw [HN2.out]; exact hlt)
        subst h1 h2
        have HE := Lib.hid he
        have EX := Lib.hid ex
        have EY := Lib.hid ey
        clear he ex ey
        by_cases hxy : x = y
        · subst hxy
          go_wp2_with fail
          go_quiet (fail)
          go_wp2_with fail
          go_roundw
          case rel =>
            refine ⟨k + 1, by omega, by go_num, below_drewN hb _, fun j hj => ?_⟩
            by_cases hjk : j = k
            · subst hjk; rw [EX.out, EY.out]
            · exact HE.out j (by omega)
          case measure => simp [intOf]; omega
        · have hne : (x == y) = false := by simpa using hxy
          have hd : decide (xs = ys) = false := by
            rw [decide_eq_false_iff_not]; intro e
            have h1 := EX.out; rw [e, EY.out] at h1
            exact hxy (by injection h1 with h1; exact h1.symm)
          have HD := Lib.hid hd
          clear hd hxy
          go_wp2_with fail
          go_quiet (fail)
          go_wp2_with fail
          go_ret
          exact ⟨by rw [HD.out]; rfl, below_drewN hb _⟩
      · obtain rfl : k = n := by omega
        have hd : decide (xs = ys) = true := by
          rw [decide_eq_true_eq]; exact same_of HL.out k (by rw [HN.out]; omega) he
        have HD := Lib.hid hd
        clear hd he
        go_wp2_with fail
        go_ret
        exact ⟨by rw [HD.out]; rfl, hb⟩
  · have hne : ((xs.length : Int) == (ys.length : Int)) = false := by simp; omega
    have hd : decide (xs = ys) = false := by rw [decide_eq_false_iff_not]; intro e; exact hlen (by rw [e])
    have HD := Lib.hid hd
    clear hd hlen
    go_enter Try.func22, Try.ntmps22
    go_wp2_with fail
    go_ret
    exact ⟨by rw [HD.out]; rfl, Below.refl _ _⟩


/-- the two sums of bytes -/
def stepS (s : Int × Int) (c : Int) : Int × Int := ((s.1 + c) % 65521, (s.2 + (s.1 + c) % 65521) % 65521)
def sumsF (bs : List Int) : Int × Int := bs.foldl stepS (1, 0)
def sumF (bs : List Int) : Int := (sumsF bs).2 * 65536 + (sumsF bs).1
theorem sumsF_succ (bs : List Int) (k : Nat) (c : Int) (h : bs[k]? = some c) : sumsF (bs.take (k + 1)) = stepS (sumsF (bs.take k)) c := by
  unfold sumsF
  rw [List.take_add_one, h, Option.toList_some, List.foldl_append]
  rfl
theorem sumsF_bd (bs : List Int) : 0 ≤ (sumsF bs).1 ∧ (sumsF bs).1 < 65521 ∧ 0 ≤ (sumsF bs).2 ∧ (sumsF bs).2 < 65521 := by
  unfold sumsF
  have : ∀ (l : List Int) (s : Int × Int), (0 ≤ s.1 ∧ s.1 < 65521 ∧ 0 ≤ s.2 ∧ s.2 < 65521) → 0 ≤ (l.foldl stepS s).1 ∧ (l.foldl stepS s).1 < 65521 ∧ 0 ≤ (l.foldl stepS s).2 ∧ (l.foldl stepS s).2 < 65521 := by
    intro l
    induction l with
    | nil => intro s h; exact h
    | cons c l ih => intro s h; exact ih _ (by unfold stepS; simp only; omega)
  exact this bs (1, 0) (by simp)
theorem sumF_in (bs : List Int) : 0 ≤ sumF bs ∧ sumF bs < 4294967296 := by have := sumsF_bd bs; unfold sumF; omega

theorem tmod_of_nonneg (a : Int) (h : 0 ≤ a) : a.tmod 65521 = a % 65521 := Int.tmod_eq_emod_of_nonneg h

set_option maxHeartbeats 1000000 in
theorem Sum_any (p : Option Addr) (bs : List Int) (cap : Nat) (w : World) (hx : Byts w p bs) (hl : bs.length ≤ 1000000) :
    Calls Try.prog 36 #[.slice p bs.length cap] w fun e w' => e = .returned (.int .i64 (sumF bs)) ∧ Below w.heap.size w w' := by
  obtain ⟨n, hn⟩ : ∃ n, bs.length = n := ⟨_, rfl⟩
  have HN := Lib.hid hn
  rw [hn] at hl; rw [hn]
  clear hn
  go_enter Try.func36, Try.ntmps36
  go_wp2_with fail
  go_loopw [3, 4, 9] (fun x y i wr => ∃ k : Nat, k ≤ n ∧ i = .int .i64 k ∧ x = .int .i64 (sumsF (bs.take k)).1 ∧ y = .int .i64 (sumsF (bs.take k)).2 ∧ Below w.heap.size w wr) (fun _ _ i _ => n - (intOf i).toNat)
  case atStart => exact ⟨0, Nat.zero_le _, rfl, rfl, rfl, Below.refl _ _⟩
  case round =>
    obtain ⟨k, hk, rfl, rfl, rfl, hb⟩ := hrel
    by_cases hlt : k < n
    · obtain ⟨b1, o1, c, h1, _, c1, ec, hc⟩ := (hx.later hb).at_ k (by rw [HN.out]; exact hlt)
      subst h1
      have hs := sumsF_succ bs k c ec
      have hbd := sumsF_bd (bs.take k)
      generalize sumsF (bs.take k) = q at *
      obtain ⟨x, y⟩ := q
      simp only at hbd
      have e1 : (wrap64 (x + wrap64 c)).tmod 65521 = (x + c) % 65521 := by
        unfold In8 at hc
        rw [show wrap64 (x + wrap64 c) = x + c from by unfold wrap64; omega, Int.tmod_eq_emod_of_nonneg (by omega)]
      have e2 : (wrap64 (y + (x + c) % 65521)).tmod 65521 = (y + (x + c) % 65521) % 65521 := by
        rw [show wrap64 (y + (x + c) % 65521) = y + (x + c) % 65521 from by unfold wrap64; omega, Int.tmod_eq_emod_of_nonneg (by omega)]
      have HS := Lib.hid hs
      have E1 := Lib.hid e1
      have E2 := Lib.hid e2
      clear hs e1 e2
      go_wp2_with fail
      go_roundw
      case rel => exact ⟨k + 1, by omega, by go_num, by rw [HS.out, E1.out]; rfl, by rw [HS.out, E1.out, E2.out]; rfl, hb⟩
      case measure => simp [intOf]; omega
    · obtain rfl : k = n := by omega
      have e : bs.take k = bs := by rw [← HN.out]; exact List.take_length
      rw [e]
      have hbd := sumsF_bd bs
      go_wp2_with fail
      go_ret
      exact ⟨rfl, hb⟩

/-- a text's bytes -/
def strB (s : ByteArray) : List Int := s.data.toList.map fun b => (b.toNat : Int)
theorem strB_length (s : ByteArray) : (strB s).length = s.size := by unfold strB; rw [List.length_map, Array.length_toList]; rfl
theorem strB_in (s : ByteArray) : ∀ x ∈ strB s, In8 x := by
  intro x hx
  simp only [strB, List.mem_map] at hx
  obtain ⟨b, _, rfl⟩ := hx
  have := b.toNat_lt
  unfold In8; omega
theorem strCells_eq (s : ByteArray) : strCells s = (strB s).map (Value.int .u8) := by unfold strCells strB; rw [List.map_map]; rfl

theorem OwnB.ext {w : World} {base : Nat} {v : Value} {bs cs : List Int} {n : Nat} (h : w.ownsRow base 5 1 v (bs.length + n) (bs.map (Value.int .u8) ++ cs.map (Value.int .u8))) (hn : n = cs.length) (hb : ∀ x ∈ bs, In8 x) (hc : ∀ x ∈ cs, In8 x) : OwnB w base v (bs ++ cs) := by
  subst hn
  refine ⟨by simpa using h, fun x hx => ?_⟩
  rcases List.mem_append.1 hx with h1 | h1
  · exact hb x h1
  · exact hc x h1

def lenPut (n : Nat) : List Int := putF (zig n)

/-- a row of numbers, one behind the other -/
def rowF (l : List Int) : List Int := l.flatMap fun n => putF (zig n)
def numsF (l : List Int) : List Int := putF (zig l.length) ++ rowF l
theorem rowF_take (l : List Int) (k : Nat) (n : Int) (h : l[k]? = some n) : rowF (l.take (k + 1)) = rowF (l.take k) ++ putF (zig n) := by
  unfold rowF; rw [List.take_add_one, h, Option.toList_some, List.flatMap_append]; simp
theorem rowF_len (l : List Int) (h : ∀ n ∈ l, In64 n) : (rowF l).length ≤ 10 * l.length := by
  unfold rowF
  induction l with
  | nil => simp
  | cons n l ih =>
    have := ih fun x hx => h x (List.mem_cons_of_mem _ hx)
    have h1 := h n (by simp)
    have := (putF_len10 (zig_lt h1.1 h1.2)).1
    rw [List.flatMap_cons, List.length_append, List.length_cons]; omega

set_option maxHeartbeats 1000000 in
theorem Nums_any (p : Option Addr) (l : List Int) (cap : Nat) (w : World) (hx : Ints w p l) (hl : l.length ≤ 10000) :
    Calls Try.prog 26 #[.slice p l.length cap] w (PutPost w w.heap.size (numsF l)) := by
  go_enter Try.func26, Try.ntmps26
  go_wp2_with fail
  refine (Put_any _ w ⟨by omega, by omega⟩).mono ?_
  rintro e w1 ⟨v, rfl, ho, hb⟩
  have hlen := (putF_len10 (zig_lt (n := l.length) (by omega) (by omega))).1
  have HO := Lib.hid ho
  clear ho
  go_wp2_with fail
  go_loopw [3, 11] (fun b i wr => ∃ k : Nat, k ≤ l.length ∧ i = .int .i64 k ∧ OwnB wr w.heap.size b (putF (zig l.length) ++ rowF (l.take k)) ∧ Below w.heap.size w wr) (fun _ i _ => l.length - (intOf i).toNat)
  case atStart => exact ⟨0, Nat.zero_le _, rfl, by simpa [rowF] using HO.out, hb⟩
  case round =>
    obtain ⟨k, hk, rfl, ho, hbr⟩ := hrel
    have HOR := Lib.hid ho
    clear ho
    by_cases hlt : k < l.length
    · obtain ⟨b1, o1, c, h1, _, c1, ec, hc⟩ := (hx.later hbr).at_ k hlt
      subst h1
      have HS := Lib.hid (rowF_take l k c ec)
      have hrl := rowF_len (l.take k) fun x hx' => hx.rng x (List.mem_of_mem_take hx')
      have hkl : (l.take k).length ≤ 10000 := by simp; omega
      have HBR := Lib.hid hbr
      clear ec
      go_wp2_with fail
      refine (put_any w.heap.size _ _ c wr HOR.out HBR.out.size (by simp; omega) hc).mono ?_
      rintro e w2 ⟨v2, rfl, ho2, hb2⟩
      have HO2 := Lib.hid ho2
      clear ho2
      go_wp2_with fail
      go_roundw
      case rel => exact ⟨k + 1, by omega, by go_num, by rw [HS.out, ← List.append_assoc]; exact HO2.out, HBR.out.trans hb2⟩
      case measure => simp [intOf]; omega
    · obtain rfl : k = l.length := by omega
      have e : l.take l.length = l := List.take_length
      rw [e] at HOR
      go_wp2_with fail
      go_ret
      exact ⟨_, rfl, HOR.out, hbr⟩

theorem Byts.srcs {w : World} {ad : Addr} {xs : List Int} (h : Byts w (some ad) xs) : ∀ j u, (xs.map (Value.int .u8))[j]? = some u → w.cell? (ad.add j) = some u := by
  intro j u hu
  by_cases h0 : 0 < xs.length
  · obtain ⟨b, off, h1, _, _⟩ := h.cells 0 h0
    injection h1 with h1
    subst h1
    exact h.src j u hu
  · have : xs = [] := List.length_eq_zero_iff.1 (by omega)
    subst this
    simp at hu

theorem gb_refl (w : World) (row : Option Nat) : w.grownBy w row := ⟨rfl, rfl, rfl, Nat.le_refl _, fun _ _ _ => rfl⟩

/-- a row of bytes, appended to one of the call's own -/
theorem wpList_append_byts {w : World} {ops : Array Oper} {rest : List Oper} {o : Oper} {a : Act} {Q : Exit → Act → World → Prop} (hgd : o.guard = none) (s x : Operand)
    (ho : o.op = .call { callee := .builtin .append, args := #[s, x], argTypes := #[24, 24] }) (base : Nat) (v : Value) (cs : List Int) (hs : a.eval s = v) (hown : OwnB w base v cs)
    (p : Option Addr) (bs : List Int) (cap : Nat) (hx : a.eval x = .slice p bs.length cap) (hb : Byts w p bs) (hp : p = none → cap = 0) (hl : cs.length + bs.length ≤ 1000000) (hbase : base ≤ w.heap.size)
    (h : ∀ v' w', OwnB w' base v' (cs ++ bs) → Below base w w' → w.grownBy w' v.ownBlock → wpList Try.prog ops Q rest (a.put o.dst v') w') : wpList Try.prog ops Q (o :: rest) a w := by
  obtain ⟨i0, hi0, hz0, hz1, hz2⟩ := info_parts byte_info
  rcases p with _ | ad
  · have h0 : bs = [] := by
      by_cases h0 : 0 < bs.length
      · obtain ⟨_, _, h1, _⟩ := hb.cells 0 h0; cases h1
      · exact List.length_eq_zero_iff.1 (by omega)
    subst h0
    rw [hp rfl] at hx
    exact wpList_append_own_none hgd s x _ ho base 5 i0 1 Try.underlying24 hi0 v cs.length (cs.map (Value.int .u8)) hs hown.1 hx (h v w (by simpa using hown) (Below.refl _ _) (gb_refl _ _))
  · refine wpList_append_own w hgd s x _ ho base 5 i0 _ 1 1 Try.underlying24 hi0 hz0 hz1 hz2 rfl (by omega) v cs.length (cs.map (Value.int .u8)) hs hown.1 ad bs.length cap (bs.map (Value.int .u8)) hx (by simp) hb.srcs (by simp [Value.oneCell']) (by unfold maxLen; omega) (by omega) hbase ?_
    intro v' w' T G _
    exact h v' w' (OwnB.ext T rfl hown.2 hb.rng) ((Below.refl _ _).grown G hbase hown.blk) G

def sealF (bs : List Int) : List Int := putF (zig bs.length) ++ bs ++ putF (zig (sumF bs))

set_option maxHeartbeats 1000000 in
theorem Seal_any (p : Option Addr) (bs : List Int) (cap : Nat) (w : World) (hx : Byts w p bs) (hl : bs.length ≤ 10000) (hp : p = none → cap = 0) :
    Calls Try.prog 25 #[.slice p bs.length cap] w (PutPost w w.heap.size (sealF bs)) := by
  go_enter Try.func25, Try.ntmps25
  go_wp2_with fail
  refine (Put_any _ w ⟨by omega, by omega⟩).mono ?_
  rintro e w1 ⟨v, rfl, ho, hb⟩
  have hlen := (putF_len10 (zig_lt (n := bs.length) (by omega) (by omega))).1
  have hsz := hb.size
  have HS : RowKit.Hid (sealF bs = putF (zig bs.length) ++ bs ++ putF (zig (sumF bs))) := Lib.hid rfl
  have hsum := sumF_in bs
  generalize putF (zig bs.length) = hd at *
  have HO := Lib.hid ho
  have HX := Lib.hid hx
  clear ho hx
  go_wp2_with (at_builtin; refine wpList_append_byts rfl (.tmp 6) (.tmp 7) rfl w.heap.size _ hd rfl HO.out p bs cap rfl (HX.out.later hb) hp (by omega) hsz ?_; intro v6 w6 T6 B6 G6)
  have hb6 := hb.trans B6
  have HT := Lib.hid T6
  have HX6 := Lib.hid (HX.out.later hb6)
  clear T6 G6
  refine (Sum_any p bs cap w6 HX6.out (by omega)).mono ?_
  rintro e w7 ⟨rfl, hb7⟩
  have hb7' := hb6.trans (hb7.mono hb6.size)
  go_wp2_with fail
  refine (put_any w.heap.size v6 (hd ++ bs) (sumF bs) w7 (HT.out.later hb7) hb7'.size (by simp; omega) ⟨by omega, by omega⟩).mono ?_
  rintro e w8 ⟨v8, rfl, ho8, hb8⟩
  go_wp2_with fail
  go_ret
  exact ⟨v8, rfl, by rw [HS.out]; exact ho8, hb7'.trans hb8⟩

end Go.Proofs.Ytbfbfpjfmdannaa
