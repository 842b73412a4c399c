/-
  WIRE: the contracts of the document's Text, Nums, Sum, Seal; pure facts of texts, rows, seals.
-/
import Derived.Test.YtbfbfpjfmdannaaWireP
namespace Go.Proofs.Ytbfbfpjfmdannaa
open Go.ChangeShapes Go.WideShapes Go.ChangeAt Go.RowKit Go.Lib

set_option maxHeartbeats 1000000 in
theorem rNums_any (p : Option Addr) (l : List Int) (cap : Nat) (w : World) (hx : Ints w p l) (hl : l.length ≤ 10000) :
    Calls Try.prog 29 #[.slice p l.length cap] w (PutPost w w.heap.size (numsF l)) := by
  go_enter Try.func29, Try.ntmps29
  go_wp2_with fail
  refine (rPut_any _ w ⟨by omega, by omega⟩).mono ?_
  rintro e w1 ⟨v, rfl, ho, hb⟩
  have hlen := (putF_len10 (zig_lt (n := l.length) (by omega) (by omega))).1
  have HO := Lib.hid ho
  clear ho
  go_wp2_with fail
  go_loopw [3, 4] (fun b i wr => ∃ k : Nat, k ≤ l.length ∧ i = .int .i64 k ∧ OwnB wr w.heap.size b (putF (zig l.length) ++ rowF (l.take k)) ∧ Below w.heap.size w wr) (fun _ i _ => l.length - (intOf i).toNat)
  case atStart => exact ⟨0, Nat.zero_le _, rfl, by simpa [rowF] using HO.out, hb⟩
  case round =>
    obtain ⟨k, hk, rfl, ho, hbr⟩ := hrel
    have HOR := Lib.hid ho
    clear ho
    by_cases hlt : k < l.length
    · obtain ⟨b1, o1, c, h1, _, c1, ec, hc⟩ := (hx.later hbr).at_ k hlt
      subst h1
      have HS := Lib.hid (rowF_take l k c ec)
      have hrl := rowF_len (l.take k) fun x hx' => hx.rng x (List.mem_of_mem_take hx')
      have hkl : (l.take k).length ≤ 10000 := by simp; omega
      have hcl := putF_len10 (zig_lt hc.1 hc.2)
      have HBR := Lib.hid hbr
      clear ec
      go_wp2_with fail
      refine (rPut_any c wr hc).mono ?_
      intro e w2 h
      obtain ⟨p2, c2, rfl, x2, -, hn2, b2⟩ := h.slice rfl rfl
      have X2 := Lib.hid x2
      have hsz := HBR.out.size
      have hsz2 := b2.size
      have hbd : (putF (zig l.length) ++ rowF (l.take k)).length ≤ 200000 := by simp only [List.length_append]; omega
      have HBD := Lib.hid hbd
      clear h x2 hbd
      go_wp2_with (at_builtin; refine wpList_append_byts rfl (.tmp 14) (.tmp 19) rfl w.heap.size _ _ rfl (HOR.out.later b2) p2 (putF (zig c)) c2 rfl X2.out hn2 (by have := HBD.out; omega) (by omega) ?_; intro v6 w6 T6 B6 G6)
      have HT := Lib.hid T6
      clear T6 G6
      go_roundw
      case rel => exact ⟨k + 1, by omega, by go_num, by rw [HS.out, ← List.append_assoc]; exact HT.out, (HBR.out.trans (b2.mono hsz)).trans B6⟩
      case measure => simp [intOf]; omega
    · obtain rfl : k = l.length := by omega
      have e : l.take l.length = l := List.take_length
      rw [e] at HOR
      go_wp2_with fail
      go_ret
      exact ⟨_, rfl, HOR.out, hbr⟩

set_option maxHeartbeats 1000000 in
theorem rsums_any (p : Option Addr) (bs : List Int) (cap : Nat) (w : World) (hx : Byts w p bs) (hl : bs.length ≤ 1000000) :
    Calls Try.prog 46 #[.slice p bs.length cap] w fun e w' => e = .returned (.tuple #[.int .i64 (sumsF bs).1, .int .i64 (sumsF bs).2]) ∧ Below w.heap.size w w' := by
  obtain ⟨n, hn⟩ : ∃ n, bs.length = n := ⟨_, rfl⟩
  have HN := Lib.hid hn
  rw [hn] at hl; rw [hn]
  clear hn
  go_enter Try.func46, Try.ntmps46
  go_wp2_with fail
  go_loopw [4, 5, 6] (fun x y i wr => ∃ k : Nat, k ≤ n ∧ i = .int .i64 k ∧ x = .int .i64 (sumsF (bs.take k)).1 ∧ y = .int .i64 (sumsF (bs.take k)).2 ∧ Below w.heap.size w wr) (fun _ _ i _ => n - (intOf i).toNat)
  case atStart => exact ⟨0, Nat.zero_le _, rfl, rfl, rfl, Below.refl _ _⟩
  case round =>
    obtain ⟨k, hk, rfl, rfl, rfl, hb⟩ := hrel
    by_cases hlt : k < n
    · obtain ⟨b1, o1, c, h1, _, c1, ec, hc⟩ := (hx.later hb).at_ k (by rw [HN.out]; exact hlt)
      subst h1
      have hs := sumsF_succ bs k c ec
      have hbd := sumsF_bd (bs.take k)
      generalize sumsF (bs.take k) = q at *
      obtain ⟨x, y⟩ := q
      simp only at hbd
      have e1 : (wrap64 (x + wrap64 c)).tmod 65521 = (x + c) % 65521 := by
        unfold In8 at hc
        rw [show wrap64 (x + wrap64 c) = x + c from by unfold wrap64; omega, Int.tmod_eq_emod_of_nonneg (by omega)]
      have e2 : (wrap64 (y + (x + c) % 65521)).tmod 65521 = (y + (x + c) % 65521) % 65521 := by
        rw [show wrap64 (y + (x + c) % 65521) = y + (x + c) % 65521 from by unfold wrap64; omega, Int.tmod_eq_emod_of_nonneg (by omega)]
      have HS := Lib.hid hs
      have E1 := Lib.hid e1
      have E2 := Lib.hid e2
      clear hs e1 e2
      go_wp2_with fail
      go_roundw
      case rel => exact ⟨k + 1, by omega, by go_num, by rw [HS.out, E1.out]; rfl, by rw [HS.out, E1.out, E2.out]; rfl, hb⟩
      case measure => simp [intOf]; omega
    · obtain rfl : k = n := by omega
      have e : bs.take k = bs := by rw [← HN.out]; exact List.take_length
      rw [e]
      go_wp2_with fail
      exact bodyPost_ret (v := .tuple #[.int .i64 (sumsF bs).1, .int .i64 (sumsF bs).2]) (by simp [results, Try.results46, go_sem]) rfl ⟨rfl, hb⟩

set_option maxHeartbeats 1000000 in
theorem rSum_any (p : Option Addr) (bs : List Int) (cap : Nat) (w : World) (hx : Byts w p bs) (hl : bs.length ≤ 1000000) :
    Calls Try.prog 41 #[.slice p bs.length cap] w fun e w' => e = .returned (.int .i64 (sumF bs)) ∧ Below w.heap.size w w' := by
  have hbd := sumsF_bd bs
  go_enter Try.func41, Try.ntmps41
  go_wp2_with fail
  refine (rsums_any p bs cap w hx hl).mono ?_
  rintro e w1 ⟨rfl, b1⟩
  go_wp2_with fail
  go_ret
  refine ⟨?_, b1⟩
  show Ending.returned (.int .i64 (65536 * (sumsF bs).2 + (sumsF bs).1)) = _
  unfold sumF
  rw [Int.mul_comm]

set_option maxHeartbeats 1000000 in
theorem rSeal_any (p : Option Addr) (bs : List Int) (cap : Nat) (w : World) (hx : Byts w p bs) (hl : bs.length ≤ 10000) (hp : p = none → cap = 0) :
    Calls Try.prog 28 #[.slice p bs.length cap] w (PutPost w w.heap.size (sealF bs)) := by
  go_enter Try.func28, Try.ntmps28
  go_wp2_with fail
  refine (rPut_any _ w ⟨by omega, by omega⟩).mono ?_
  rintro e w1 ⟨v, rfl, ho, hb⟩
  have hlen := (putF_len10 (zig_lt (n := bs.length) (by omega) (by omega))).1
  have hsz := hb.size
  have HS : RowKit.Hid (sealF bs = putF (zig bs.length) ++ bs ++ putF (zig (sumF bs))) := Lib.hid rfl
  have hsum := sumF_in bs
  generalize putF (zig bs.length) = hd at *
  have HO := Lib.hid ho
  have HX := Lib.hid hx
  clear ho hx
  go_wp2_with (at_builtin; refine wpList_append_byts rfl (.tmp 6) (.tmp 7) rfl w.heap.size _ hd rfl HO.out p bs cap rfl (HX.out.later hb) hp (by omega) hsz ?_; intro v6 w6 T6 B6 G6)
  have hb6 := hb.trans B6
  have HT := Lib.hid T6
  have HX6 := Lib.hid (HX.out.later hb6)
  clear T6 G6
  refine (rSum_any p bs cap w6 HX6.out (by omega)).mono ?_
  rintro e w7 ⟨rfl, hb7⟩
  have hb7' := hb6.trans (hb7.mono hb6.size)
  go_wp2_with fail
  refine (rPut_any (sumF bs) w7 ⟨by omega, by omega⟩).mono ?_
  intro e w8 h
  obtain ⟨p8, c8, rfl, x8, -, hn8, b8⟩ := h.slice rfl rfl
  have X8 := Lib.hid x8
  have hl8 := (putF_len10 (zig_lt (n := sumF bs) (by omega) (by omega))).1
  have hb8 := hb7'.trans (b8.mono hb7'.size)
  have HL8 := Lib.hid (show (hd ++ bs).length + (putF (zig (sumF bs))).length ≤ 1000000 by simp only [List.length_append]; omega)
  clear h x8
  go_wp2_with (at_builtin; refine wpList_append_byts rfl (.tmp 9) (.tmp 12) rfl w.heap.size _ (hd ++ bs) rfl ((HT.out.later hb7).later b8) p8 (putF (zig (sumF bs))) c8 rfl X8.out hn8 HL8.out hb8.size ?_; intro v9 w9 T9 B9 G9)
  go_ret
  exact ⟨v9, rfl, by rw [HS.out]; exact T9, hb8.trans B9⟩

theorem Byts.take {w : World} {p : Option Addr} {xs : List Int} (h : Byts w p xs) (n : Nat) : Byts w p (xs.take n) := by
  refine ⟨fun i hi => ?_, fun x hx => h.rng x (List.mem_of_mem_take hx)⟩
  rw [List.length_take] at hi
  obtain ⟨b, off, h1, h2, h3⟩ := h.cells i (by omega)
  exact ⟨b, off, h1, h2, by rw [h3, List.getElem_take]⟩

theorem take_hd {hd xs : List Int} {k : Nat} (h : hd.length ≤ k) : (hd ++ xs).take k = hd ++ xs.take (k - hd.length) := by
  rw [List.take_append, List.take_of_length_le h]

/-- what stands behind how many bytes it has -/
theorem runF_whole (xs r : List Int) (hl : xs.length ≤ 1000000) : runF (putF (zig xs.length) ++ xs ++ r) = some ((putF (zig xs.length)).length, xs.length) := by
  have hg := getF_put (n := xs.length) (by unfold In64; omega) (xs ++ r)
  unfold runF
  rw [List.append_assoc, hg]
  simp only [List.length_append]
  rw [if_neg (by omega)]
  simp
theorem runF_part (xs r : List Int) : ((putF (zig xs.length) ++ xs ++ r).drop (putF (zig xs.length)).length).take xs.length = xs := by
  rw [List.append_assoc, List.drop_left, List.take_left]
theorem getF_short {n : Int} (hn : In64 n) (r : List Int) {k : Nat} (hk : k < (putF (zig n)).length) : getF ((putF (zig n) ++ r).take k) = (0, 0, 3) := by
  have := getG_put (zig n) 0 r (by have := zig_lt hn.1 hn.2; simpa using this) (fun h => absurd h (by omega))
  exact getF_none (getG_short _ 0 _ _ k this hk)
theorem runF_short (xs r : List Int) (hl : xs.length ≤ 1000000) {k : Nat} (hk : k < (putF (zig xs.length)).length + xs.length) : runF ((putF (zig xs.length) ++ xs ++ r).take k) = none := by
  have hi : In64 (xs.length : Int) := by unfold In64; omega
  by_cases h : k < (putF (zig xs.length)).length
  · unfold runF
    rw [List.append_assoc, getF_short hi _ h]; simp
  · unfold runF
    rw [List.append_assoc, take_hd (by omega), getF_put hi]
    rw [if_pos]
    right; right
    simp only [List.length_append, List.length_take]
    omega

theorem putF_pos (u : Nat) : 1 ≤ (putF u).length := by
  by_cases h : u < 128
  · rw [putF_low h]; simp
  · rw [putF_high h]; simp
theorem rowF_cons (n : Int) (l : List Int) : rowF (n :: l) = putF (zig n) ++ rowF l := by unfold rowF; simp
theorem rowF_ge (l : List Int) : l.length ≤ (rowF l).length := by
  induction l with
  | nil => simp [rowF]
  | cons n l ih => rw [rowF_cons, List.length_append, List.length_cons]; have := putF_pos (zig n); omega
theorem getRow_put (l : List Int) (r : List Int) (h : ∀ n ∈ l, In64 n) : getRow l.length (rowF l ++ r) = some (l, (rowF l).length) := by
  induction l with
  | nil => rfl
  | cons n l ih =>
    have hg := getF_put (h n (by simp)) (rowF l ++ r)
    rw [rowF_cons, List.append_assoc, List.length_cons, getRow_step (by rw [hg]), hg]
    simp only [List.drop_left]
    rw [ih fun x hx => h x (List.mem_cons_of_mem _ hx)]
    simp
theorem getRow_short (l : List Int) (r : List Int) (h : ∀ n ∈ l, In64 n) : ∀ k, k < (rowF l).length → getRow l.length ((rowF l ++ r).take k) = none := by
  induction l with
  | nil => intro k hk; simp [rowF] at hk
  | cons n l ih =>
    intro k hk
    have hn := h n (by simp)
    rw [rowF_cons, List.length_append] at hk
    rw [rowF_cons, List.append_assoc, List.length_cons]
    by_cases hk1 : k < (putF (zig n)).length
    · exact getRow_stop (by rw [getF_short hn _ hk1]; simp)
    · have hg := getF_put hn ((rowF l ++ r).take (k - (putF (zig n)).length))
      rw [take_hd (by omega), getRow_step (by rw [hg]), hg]
      simp only [List.drop_left]
      rw [ih (fun x hx => h x (List.mem_cons_of_mem _ hx)) _ (by omega)]; rfl

theorem numsG_whole (l r : List Int) (h : ∀ n ∈ l, In64 n) (hl : l.length ≤ 1000000) : numsG (numsF l ++ r) = some (l, (numsF l).length) := by
  have hi : In64 (l.length : Int) := by unfold In64; omega
  have hg := getF_put hi (rowF l ++ r)
  have hge := rowF_ge l
  unfold numsG numsF
  rw [List.append_assoc, hg]
  simp only [List.length_append]
  rw [if_neg (by omega), List.drop_left, Int.toNat_natCast, getRow_put l r h]
  simp
theorem numsG_short (l r : List Int) (h : ∀ n ∈ l, In64 n) (hl : l.length ≤ 1000000) {k : Nat} (hk : k < (numsF l).length) : numsG ((numsF l ++ r).take k) = none := by
  have hi : In64 (l.length : Int) := by unfold In64; omega
  unfold numsF at hk ⊢
  rw [List.length_append] at hk
  unfold numsG
  by_cases h1 : k < (putF (zig l.length)).length
  · rw [List.append_assoc, getF_short hi _ h1]; simp
  · rw [List.append_assoc, take_hd (by omega), getF_put hi]
    split
    · rfl
    · rw [List.drop_left, Int.toNat_natCast, getRow_short l r h _ (by omega)]; rfl

end Go.Proofs.Ytbfbfpjfmdannaa
