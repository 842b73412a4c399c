/-
  SP: what strands lead to, and which have begun: the document's Leads and Begun.
-/
import Derived.Test.YtjpimaiogdckpaaSpL
import Derived.Test.YtjpimaiogdckpaaSpR
import Derived.Test.YtjpimaiogdckpaaTail
import Derived.LoopTactic
import Derived.Deep.QuietTactic
import Derived.BigQuiet
import Derived.Deep.OwnRows
namespace Go.Proofs.Ytjpimaiogdckpaa
open Go.ChangeShapes Go.WideShapes Go.ChangeAt Go.RowKit

/-- has a strand begun? -/
def begB (l : List SplV) (y : Nat) : Bool := y == 0 || l.any fun x => (x.kind == 1 && (x.b == (y : Int) || x.c == (y : Int))) || (x.kind == 3 && x.d == (y : Int))
theorem bgR_iff (y : Nat) : ∀ (l : List SplV) (B : Nat → Prop), bgR B l y ↔ B y ∨ ∃ x ∈ l, (x.kind = 1 ∧ ((y : Int) = x.b ∨ (y : Int) = x.c)) ∨ (x.kind = 3 ∧ (y : Int) = x.d)
  | [], B => by simp [bgR]
  | x :: l, B => by
    show bgR (bgP B x) l y ↔ _
    rw [bgR_iff y l]
    unfold bgP
    simp only [List.mem_cons]
    constructor
    · rintro ((q | q) | ⟨z, hz, q⟩)
      · exact .inl q
      · exact .inr ⟨x, .inl rfl, q⟩
      · exact .inr ⟨z, .inr hz, q⟩
    · rintro (q | ⟨z, rfl | hz, q⟩)
      · exact .inl (.inl q)
      · exact .inl (.inr q)
      · exact .inr ⟨z, hz, q⟩
theorem begB_iff (l : List SplV) (y : Nat) : begB l y = true ↔ bgR (fun z => z = 0) l y := by
  rw [bgR_iff]
  unfold begB
  simp only [Bool.or_eq_true, beq_iff_eq, List.any_eq_true, Bool.and_eq_true]
  refine or_congr Iff.rfl ⟨?_, ?_⟩
  · rintro ⟨x, hx, (⟨q1, q2⟩ | ⟨q1, q2⟩)⟩
    · exact ⟨x, hx, .inl ⟨q1, q2.imp Eq.symm Eq.symm⟩⟩
    · exact ⟨x, hx, .inr ⟨q1, q2.symm⟩⟩
  · rintro ⟨x, hx, (⟨q1, q2⟩ | ⟨q1, q2⟩)⟩
    · exact ⟨x, hx, .inl ⟨q1, q2.imp Eq.symm Eq.symm⟩⟩
    · exact ⟨x, hx, .inr ⟨q1, q2.symm⟩⟩
def hitB (x : SplV) (y : Nat) : Bool := (x.kind == 1 && (x.b == (y : Int) || x.c == (y : Int))) || (x.kind == 3 && x.d == (y : Int))

set_option maxRecDepth 100000 in
set_option maxHeartbeats 8000000 in
theorem begun_any (l : List SplV) (n : Nat) (hl : l.length = n) (hm : n ≤ 300) (y : Nat) (hy : y ≤ 100000) (p : Option Addr) (c : Nat) (w : World) (S : Sds w p l) :
    Calls Try.prog 11 #[.slice p n c, .int .i64 y] w fun e w' => e = .returned (.bool (begB l y)) ∧ Below w.heap.size w w' := by
  by_cases h0 : y = 0
  · subst h0
    go_enter Try.func11, Try.ntmps11
    go_wp2_with fail
    go_ret
    exact ⟨by simp [begB], Below.refl _ _⟩
  have HL := Lib.hid hl
  have HS := Lib.hid S
  obtain ⟨R, hR⟩ : ∃ R, begB l y = R := ⟨_, rfl⟩
  rw [hR]
  have HR := Lib.hid hR
  have y1 : ((y : Int) == 0) = false := by simp; omega
  clear hR hl S
  go_enter Try.func11, Try.ntmps11
  go_wp2_with fail
  go_loopw [5] (fun vi wr => ∃ i x : Nat, vi = .int .i64 i ∧ i ≤ n ∧ wr = w.drewN x ∧ Hid ((l.take i).any (fun x => hitB x y) = false)) (fun vi _ => n - (intOf vi).toNat)
  case atStart => exact ⟨0, 0, rfl, by omega, rfl, Lib.hid rfl⟩
  case round =>
    obtain ⟨i, d, rfl, hi, rfl, HT⟩ := hrel
    by_cases hlt : i < n
    · have hil : i < l.length := by rw [HL.out]; exact hlt
      obtain ⟨⟨kd, A, B, C, D⟩, hx⟩ : ∃ x, l[i] = x := ⟨_, rfl⟩
      have hat := HS.out.at_ i hil
      rw [hx] at hat
      obtain ⟨b, off, rfl, hbl, g0, g1, g2, g3, g4⟩ := hat
      dsimp only at g0 g1 g2 g3 g4
      have hnx : ∀ q : Bool, hitB ⟨kd, A, B, C, D⟩ y = q → (l.take (i + 1)).any (fun x => hitB x y) = q := fun q hq => by
        rw [List.take_succ_eq_append_getElem hil, List.any_append, HT.out, hx]
        simp [hq]
      have hyes : hitB ⟨kd, A, B, C, D⟩ y = true → R = true := fun hq => by
        rw [← HR.out]
        unfold begB
        have : l.any (fun x => hitB x y) = true := List.any_eq_true.2 ⟨l[i], List.getElem_mem hil, by rw [hx]; exact hq⟩
        unfold hitB at this
        rw [this]; simp
      have HNX := Lib.hid hnx
      have HYES := Lib.hid hyes
      clear hnx hyes hx g1
      by_cases k1 : kd = 1
      · subst k1
        by_cases hb : B = (y : Int)
        · subst hb
          have q1 : ((y : Int) == (y : Int)) = true := by simp
          have HRT := Lib.hid (HYES.out (by simp [hitB]))
          go_wp2_with fail
          go_ret
          exact ⟨by rw [HRT.out]; rfl, below_drewN (Below.refl _ _) _⟩
        have q1 : (B == (y : Int)) = false := by simpa using hb
        by_cases hc : C = (y : Int)
        · subst hc
          have q2 : ((y : Int) == (y : Int)) = true := by simp
          have HRT := Lib.hid (HYES.out (by simp [hitB]))
          go_wp2_with fail
          go_ret
          exact ⟨by rw [HRT.out]; rfl, below_drewN (Below.refl _ _) _⟩
        have q2 : (C == (y : Int)) = false := by simpa using hc
        clear hb hc
        have HT2 := Lib.hid (HNX.out false (by simp [hitB, q1, q2]))
        go_wp2_with fail
        go_roundw
        case rel => exact ⟨i + 1, d, by simp, by omega, rfl, HT2⟩
        case measure => simp [intOf]; omega
      have q0 : (kd == 1) = false := by simpa using k1
      by_cases k3 : kd = 3
      · subst k3
        by_cases hd : D = (y : Int)
        · subst hd
          have q2 : ((y : Int) == (y : Int)) = true := by simp
          have HRT := Lib.hid (HYES.out (by simp [hitB]))
          go_wp2_with fail
          go_ret
          exact ⟨by rw [HRT.out]; rfl, below_drewN (Below.refl _ _) _⟩
        have q2 : (D == (y : Int)) = false := by simpa using hd
        clear hd
        have HT2 := Lib.hid (HNX.out false (by simp [hitB, q2]))
        go_wp2_with fail
        go_roundw
        case rel => exact ⟨i + 1, d, by simp, by omega, rfl, HT2⟩
        case measure => simp [intOf]; omega
      have q3 : (kd == 3) = false := by simpa using k3
      clear k1 k3
      have HT2 := Lib.hid (HNX.out false (by simp [hitB, q0, q3]))
      go_wp2_with fail
      go_roundw
      case rel => exact ⟨i + 1, d, by simp, by omega, rfl, HT2⟩
      case measure => simp [intOf]; omega
    · obtain rfl : i = n := by omega
      have hF : R = false := by
        rw [← HR.out]
        unfold begB
        have h := HT.out
        rw [List.take_of_length_le (by rw [HL.out]; omega)] at h
        unfold hitB at h
        rw [h]; simpa using h0
      have HF := Lib.hid hF
      clear hF
      go_wp2_with fail
      go_ret
      exact ⟨by rw [HF.out]; rfl, below_drewN (Below.refl _ _) _⟩

/-- one pass over one split -/
def ledL (o : List Bool) (x : SplV) : List Bool := if o.getD x.a.toNat false = true then (if x.kind = 1 then (o.set x.b.toNat true).set x.c.toNat true else o.set x.d.toNat true) else o
theorem ledL_len (o : List Bool) (x : SplV) : (ledL o x).length = o.length := by
  unfold ledL
  split
  · split <;> simp
  · rfl
theorem ledL_nat (o : List Bool) (kd : Int) (A B C D : Nat) : ledL o ⟨kd, (A : Int), (B : Int), (C : Int), (D : Int)⟩ = if o.getD A false = true then (if kd = 1 then (o.set B true).set C true else o.set D true) else o := rfl
theorem set_true (o : List Bool) (b y : Nat) (hb : b < o.length) : ((o.set b true).getD y false = true) ↔ (o.getD y false = true ∨ y = b) := by
  rw [List.getD_eq_getElem?_getD, List.getElem?_set]
  by_cases e : b = y
  · subst e; simp [hb]
  · rw [if_neg e, ← List.getD_eq_getElem?_getD]
    exact ⟨.inl, fun q => q.resolve_right (fun q => e q.symm)⟩
structure InN (N : Nat) (x : SplV) : Prop where
  a : x.a.toNat < N ∧ 0 ≤ x.a
  b : x.b.toNat < N ∧ 0 ≤ x.b
  c : x.c.toNat < N ∧ 0 ≤ x.c
  d : x.d.toNat < N ∧ 0 ≤ x.d
theorem ledL_iff (o : List Bool) (x : SplV) (h : InN o.length x) (f : Nat → Prop) (hf : ∀ y, o.getD y false = true ↔ f y) (y : Nat) : (ledL o x).getD y false = true ↔ ledP f x y := by
  unfold ledL ledP
  obtain ⟨⟨a1, a2⟩, ⟨b1, b2⟩, ⟨c1, c2⟩, ⟨d1, d2⟩⟩ := h
  by_cases ha : o.getD x.a.toNat false = true
  · rw [if_pos ha]
    have hfa := (hf _).1 ha
    by_cases hk : x.kind = 1
    · rw [if_pos hk, set_true _ _ _ (by simpa using c1), set_true _ _ _ b1, hf]
      constructor
      · rintro ((q | q) | q)
        · exact .inl q
        · exact .inr ⟨hfa, .inl ⟨hk, .inl (by omega)⟩⟩
        · exact .inr ⟨hfa, .inl ⟨hk, .inr (by omega)⟩⟩
      · rintro (q | ⟨_, (⟨_, q | q⟩ | ⟨q, _⟩)⟩)
        · exact .inl (.inl q)
        · exact .inl (.inr (by omega))
        · exact .inr (by omega)
        · exact absurd hk q
    · rw [if_neg hk, set_true _ _ _ d1, hf]
      constructor
      · rintro (q | q)
        · exact .inl q
        · exact .inr ⟨hfa, .inr ⟨hk, by omega⟩⟩
      · rintro (q | ⟨_, (⟨q, _⟩ | ⟨_, q⟩)⟩)
        · exact .inl q
        · exact absurd q hk
        · exact .inr (by omega)
  · rw [if_neg ha, hf]
    exact ⟨.inl, fun q => q.resolve_right (fun q => ha ((hf _).2 q.1))⟩
theorem ledF_iff : ∀ (l : List SplV) (o : List Bool) (f : Nat → Prop), (∀ x ∈ l, InN o.length x) → (∀ y, o.getD y false = true ↔ f y) → (l.foldl ledL o).length = o.length ∧ ∀ y, (l.foldl ledL o).getD y false = true ↔ ledR f l y
  | [], o, f, _, hf => ⟨rfl, hf⟩
  | x :: l, o, f, h, hf => by
    have h1 := ledL_iff o x (h x (by simp)) f hf
    have h2 := ledF_iff l (ledL o x) (ledP f x) (fun y hy => by rw [ledL_len]; exact h y (by simp [hy])) h1
    rw [ledL_len] at h2
    exact h2
theorem set_id (o : List Bool) (b : Nat) (h : o.getD b false = true) : o.set b true = o := by
  by_cases hb : b < o.length
  · rw [List.getD_eq_getElem?_getD, List.getElem?_eq_getElem hb] at h
    have h : o[b] = true := h
    conv => rhs; rw [← List.set_getElem_self hb]
    rw [h]
  · rw [List.set_eq_of_length_le (by omega)]
theorem ledF_id : ∀ (l : List SplV) (o : List Bool), (∀ x ∈ l, o.getD x.a.toNat false = true → Tg (fun y => o.getD y false = true) x) → l.foldl ledL o = o
  | [], _, _ => rfl
  | x :: l, o, h => by
    have h1 : ledL o x = o := by
      unfold ledL
      by_cases ha : o.getD x.a.toNat false = true
      · rw [if_pos ha]
        obtain ⟨t1, t2⟩ := h x (by simp) ha
        by_cases hk : x.kind = 1
        · rw [if_pos hk, set_id o _ (t1 hk).1, set_id o _ (t1 hk).2]
        · rw [if_neg hk, set_id o _ (t2 hk)]
      · rw [if_neg ha]
    rw [List.foldl_cons, h1]
    exact ledF_id l o (fun y hy => h y (by simp [hy]))
theorem ledF_take (l : List SplV) (i : Nat) (h : i < l.length) (o : List Bool) : (l.take (i + 1)).foldl ledL o = ledL ((l.take i).foldl ledL o) l[i] := by
  rw [List.take_succ_eq_append_getElem h, List.foldl_append]; rfl

def boolsA (o : List Bool) : Array Value := (o.map Value.bool).toArray
theorem boolsA_at (o : List Bool) (i : Nat) (h : i < o.length) : (boolsA o)[i]? = some (.bool (o.getD i false)) := by
  unfold boolsA
  rw [List.getElem?_toArray, List.getElem?_map, List.getD_eq_getElem?_getD, List.getElem?_eq_getElem h]; rfl
theorem boolsA_put (o : List Bool) (i : Nat) (v : Bool) : (boolsA o).setIfInBounds i (.bool v) = boolsA (o.set i v) := by
  unfold boolsA
  rw [List.setIfInBounds_toArray, List.map_set]
set_option maxRecDepth 100000 in
theorem boolInfo : (Try.prog.info? 4).map (fun i => (i.zero, i.size, i.bytes)) = some (some (.bool false), 1, 1) := by kernel_rfl
theorem made_bools (n : Nat) : madeCells #[Value.bool false] n = boolsA (List.replicate n false) := by
  apply Array.ext_getElem?
  intro i
  by_cases h : i < n
  · rw [boolsA_at _ i (by simpa using h)]
    unfold madeCells
    rw [Array.getElem?_map, Array.getElem?_range, if_pos h, List.getD_eq_getElem?_getD, List.getElem?_replicate, if_pos h]
    simp [Nat.mod_one]
  · rw [Array.getElem?_eq_none (by rw [size_madeCells]; omega), Array.getElem?_eq_none (by simp [boolsA]; omega)]
set_option maxRecDepth 100000 in
theorem make_bools (n : Nat) (hn : n ≤ 1000000) (w : World) : (Instr.makeSlice 28 (.int .i64 (n : Int)) (.int .i64 (n : Int))).run Try.prog w = .ok (.slice (some ⟨w.heap.size, 0, none⟩) n n) (w.alloc (.cells (boolsA (List.replicate n false)) 4)) := by
  obtain ⟨i0, hi0⟩ : ∃ i, Try.prog.info? 4 = some i := ⟨_, rfl⟩
  have hz := boolInfo
  rw [hi0] at hz
  simp only [Option.map_some, Option.some.injEq, Prod.mk.injEq] at hz
  obtain ⟨hz0, hz1, hz2⟩ := hz
  have hr := run_make (P := Try.prog) w 28 4 i0 _ Try.underlying28 hi0 hz0 .i64 .i64 n n (by omega) (Int.le_refl _) (by rw [hz2]; omega) (by omega)
  rw [hz1] at hr
  simp only [Int.toNat_natCast] at hr
  have e : (Value.bool false).cells = #[Value.bool false] := rfl
  rw [e, Nat.mul_one, made_bools] at hr
  exact hr

def LeadsPost (l : List SplV) (N a : Nat) (w : World) (e : Ending) (w' : World) : Prop := ∃ g o, e = .returned (.slice (some ⟨g, 0, none⟩) N N) ∧ o.length = N ∧ Blk w' g 4 (boolsA o) ∧ (∀ y, y < N → (o.getD y false = true ↔ y ≠ a ∧ ledR (fun y => y = a) l y)) ∧ Below w.heap.size w w'
set_option maxRecDepth 100000 in
set_option maxHeartbeats 8000000 in
theorem leads_any (l : List SplV) (n : Nat) (hl : l.length = n) (hm : n ≤ 300) (N a : Nat) (hN : N ≤ 100000) (ha : a < N) (hin : ∀ x ∈ l, InN N x) (hcl : ∀ x ∈ l, ledR (fun y => y = a) l x.a.toNat → Tg (ledR (fun y => y = a) l) x) (p : Option Addr) (c : Nat) (w : World) (S : Sds w p l) :
    Calls Try.prog 10 #[.slice p n c, .int .i64 N, .int .i64 a] w (LeadsPost l N a w) := by
  obtain ⟨o0, ho0⟩ : ∃ o0, (List.replicate N false).set a true = o0 := ⟨_, rfl⟩
  have hl0 : o0.length = N := by rw [← ho0]; simp
  have hf0 : ∀ y, o0.getD y false = true ↔ y = a := fun y => by
    rw [← ho0, set_true _ _ _ (by simpa using ha), List.getD_eq_getElem?_getD, List.getElem?_replicate]
    by_cases h : y < N <;> simp [h]
  obtain ⟨o1, ho1⟩ : ∃ o1, l.foldl ledL o0 = o1 := ⟨_, rfl⟩
  obtain ⟨hl1, hf1⟩ := ledF_iff l o0 (fun y => y = a) (by rw [hl0]; exact hin) hf0
  rw [ho1] at hl1 hf1
  rw [hl0] at hl1
  have hid : l.foldl ledL o1 = o1 := ledF_id l o1 (fun x hx hxa => by
    obtain ⟨t1, t2⟩ := hcl x hx ((hf1 _).1 hxa)
    exact ⟨fun e => ⟨(hf1 _).2 (t1 e).1, (hf1 _).2 (t1 e).2⟩, fun e => (hf1 _).2 (t2 e)⟩)
  have hlen : ∀ (ob : List Bool), ob.length = N → ∀ i, ((l.take i).foldl ledL ob).length = N := fun ob hob i => by
    have : ∀ (k : List SplV) (q : List Bool), (k.foldl ledL q).length = q.length := fun k => by
      induction k with
      | nil => intro q; rfl
      | cons x k ih => intro q; rw [List.foldl_cons, ih, ledL_len]
    rw [this, hob]
  have HLEN := Lib.hid hlen
  have HF1 := Lib.hid hf1
  have HID := Lib.hid hid
  have HO1 := Lib.hid ho1
  have HL := Lib.hid hl
  have HIN := Lib.hid hin
  have HL0 := Lib.hid hl0
  have HL1 := Lib.hid hl1
  have HS := Lib.hid S
  have HO0 := Lib.hid ho0
  clear hlen hf1 hid ho1 hl hin hl0 hl1 S ho0 hf0 hcl
  have hmk := fun wx => make_bools N (by omega) wx
  have aN : ¬ ((N : Int) ≤ (a : Int)) := by omega
  have aN2 : ¬ N ≤ a := by omega
  have c0 : (boolsA (List.replicate N false))[a]? = some (.bool false) := by rw [boolsA_at _ _ (by simpa using ha), List.getD_eq_getElem?_getD, List.getElem?_replicate, if_pos ha]; rfl
  have aN3 : a < N := ha
  go_enter Try.func10, Try.ntmps10
  go_wp2_with fail
  rw [boolsA_put, HO0.out]
  obtain ⟨V, hV⟩ : ∃ V, V = w.alloc (Obj.cells (boolsA o0) 4) := ⟨_, rfl⟩
  have HK : Hid (Blk V w.heap.size 4 (boolsA o0)) := Lib.hid (by rw [hV]; exact Blk.made _ _ _)
  have HB : Hid (Below w.heap.size w V) := Lib.hid (by rw [hV]; exact bel_alloc (Below.refl _ _) _)
  rw [← hV]
  clear hV c0 hmk
  go_loopw [8] (fun vi wr => ∃ (q : Nat) (o : List Bool), vi = .int .i64 q ∧ q ≤ N ∧ Hid ((q = 0 ∧ o = o0) ∨ (1 ≤ q ∧ o = o1)) ∧ ∃ W', W' = wr ∧ Hid (Blk W' w.heap.size 4 (boolsA o)) ∧ Hid (Below w.heap.size w W')) (fun vi _ => N - (intOf vi).toNat)
  case atStart => exact ⟨0, o0, rfl, by omega, Lib.hid (.inl ⟨rfl, rfl⟩), _, rfl, HK, HB⟩
  case round =>
    clear HK HB
    obtain ⟨q, o, rfl, hq, HQ, wr, rfl, HK, HB⟩ := hrel
    have hoN : Hid (o.length = N) := Lib.hid (by rcases HQ.out with ⟨_, rfl⟩ | ⟨_, rfl⟩ <;> first | exact HL0.out | exact HL1.out)
    have hfin : Hid (l.foldl ledL o = o1) := Lib.hid (by rcases HQ.out with ⟨_, rfl⟩ | ⟨_, rfl⟩ <;> first | exact HO1.out | exact HID.out)
    by_cases hqN : q < N
    · go_wp2_with fail
      go_loopw [9] (fun vi wr => ∃ i : Nat, vi = .int .i64 i ∧ i ≤ n ∧ ∃ W', W' = wr ∧ Hid (Blk W' w.heap.size 4 (boolsA ((l.take i).foldl ledL o))) ∧ Hid (Below w.heap.size w W')) (fun vi _ => n - (intOf vi).toNat)
      case atStart => exact ⟨0, rfl, by omega, _, rfl, HK, HB⟩
      case round =>
        clear HK HB
        obtain ⟨i, rfl, hi, wr, rfl, HK, HB⟩ := hrel
        by_cases hlt : i < n
        · have hil : i < l.length := by rw [HL.out]; exact hlt
          have hst := ledF_take l i hil o
          have hx0 := HIN.out l[i] (List.getElem_mem hil)
          obtain ⟨⟨kd, A, B, C, D⟩, hx⟩ : ∃ x, l[i] = x := ⟨_, rfl⟩
          have hat := (HS.out.later HB.out).at_ i hil
          rw [hx] at hat hst hx0
          obtain ⟨b, off, rfl, hbl, g0, g1, g2, g3, g4⟩ := hat
          obtain ⟨⟨a1, a2⟩, ⟨b1, b2⟩, ⟨c1, c2⟩, ⟨d1, d2⟩⟩ := hx0
          dsimp only at g0 g1 g2 g3 g4 a1 a2 b1 b2 c1 c2 d1 d2
          obtain ⟨A', rfl⟩ := Int.eq_ofNat_of_zero_le a2
          obtain ⟨B', rfl⟩ := Int.eq_ofNat_of_zero_le b2
          obtain ⟨C', rfl⟩ := Int.eq_ofNat_of_zero_le c2
          obtain ⟨D', rfl⟩ := Int.eq_ofNat_of_zero_le d2
          rw [Int.toNat_natCast] at a1 b1 c1 d1
          have lo := HLEN.out o hoN.out i
          obtain ⟨oi, hoi⟩ : ∃ oi, (l.take i).foldl ledL o = oi := ⟨_, rfl⟩
          rw [hoi] at hst HK lo
          rw [ledL_nat] at hst
          have HST := Lib.hid hst
          have HLO := Lib.hid lo
          obtain ⟨V1, hV1⟩ : ∃ V1, V1 = wr.alloc (Obj.cells #[.int .i64 kd, .int .i64 (A' : Int), .int .i64 (B' : Int), .int .i64 (C' : Int), .int .i64 (D' : Int)] 37) := ⟨_, rfl⟩
          have hbv : Below wr.heap.size wr V1 := by rw [hV1]; exact bel_alloc (Below.refl _ _) _
          have K1 := HK.out.later hbv
          have HB1 := Lib.hid (HB.out.trans (hbv.mono HB.out.size))
          have HSB : Hid (w.heap.size ≠ wr.heap.size) := Lib.hid (by have := HK.out.lt; omega)
          have KX : Blk V1 wr.heap.size 37 #[.int .i64 kd, .int .i64 (A' : Int), .int .i64 (B' : Int), .int .i64 (C' : Int), .int .i64 (D' : Int)] := by rw [hV1]; exact Blk.made _ _ _
          clear hst hx hoi a2 b2 c2 d2
          have lA : A' < oi.length := by rw [HLO.out]; exact a1
          have lB : B' < oi.length := by rw [HLO.out]; exact b1
          have lC : C' < oi.length := by rw [HLO.out]; exact c1
          have lD : D' < oi.length := by rw [HLO.out]; exact d1
          have cA : V1.cell? ⟨w.heap.size, A', none⟩ = some (.bool (oi.getD A' false)) := by rw [K1.cell]; exact boolsA_at _ _ lA
          have lw := K1.lt
          cases hX : oi.getD A' false with
          | false =>
            rw [hX] at cA
            have HK2 : Hid (Blk V1 w.heap.size 4 (boolsA ((l.take (i + 1)).foldl ledL o))) := Lib.hid (by rw [HST.out, hX]; exact K1)
            have HV1 := Lib.hid hV1
            rw [hV1] at cA lw
            clear hV1 hbv K1 KX HK HST lA lB lC lD hX
            go_wp2_with fail
            rw [← HV1.out]
            go_roundw
            case rel => exact ⟨i + 1, by simp, by omega, _, rfl, HK2, HB1⟩
            case measure => simp [intOf]; omega
          | true =>
            rw [hX] at cA
            by_cases hkd : kd = 1
            · subst hkd
              have cB : V1.cell? ⟨w.heap.size, B', none⟩ = some (.bool (oi.getD B' false)) := by rw [K1.cell]; exact boolsA_at _ _ lB
              have fB := K1.free B'
              have K2 := K1.put B' (.bool true)
              rw [boolsA_put] at K2
              have cC : (V1.setCell ⟨w.heap.size, B', none⟩ (.bool true)).cell? ⟨w.heap.size, C', none⟩ = some (.bool ((oi.set B' true).getD C' false)) := by rw [K2.cell]; exact boolsA_at _ _ (by rw [List.length_set]; exact lC)
              have fC := K2.free C'
              have gC : (V1.setCell ⟨w.heap.size, B', none⟩ (.bool true)).cell? ⟨wr.heap.size, 3, none⟩ = some (.int .i64 (C' : Int)) := by rw [(KX.far (p := ⟨w.heap.size, B', none⟩) (by exact fun e => HSB.out e.symm) _).cell]; rfl
              have K3 := K2.put C' (.bool true)
              rw [boolsA_put] at K3
              obtain ⟨V3, hV3⟩ : ∃ V3, V3 = (V1.setCell ⟨w.heap.size, B', none⟩ (.bool true)).setCell ⟨w.heap.size, C', none⟩ (.bool true) := ⟨_, rfl⟩
              have HK2 : Hid (Blk V3 w.heap.size 4 (boolsA ((l.take (i + 1)).foldl ledL o))) := Lib.hid (by rw [HST.out, hX, hV3]; exact K3)
              have HB3 : Hid (Below w.heap.size w V3) := Lib.hid (by rw [hV3]; exact (HB1.out.setCell (p := ⟨w.heap.size, B', none⟩) (Nat.le_refl _) _).setCell (p := ⟨w.heap.size, C', none⟩) (Nat.le_refl _) _)
              have HV3 : Hid (V3 = ((wr.alloc (Obj.cells #[.int .i64 1, .int .i64 (A' : Int), .int .i64 (B' : Int), .int .i64 (C' : Int), .int .i64 (D' : Int)] 37)).setCell ⟨w.heap.size, B', none⟩ (.bool true)).setCell ⟨w.heap.size, C', none⟩ (.bool true)) := Lib.hid (by rw [hV3, hV1])
              rw [hV1] at cA lw cB fB cC fC gC
              clear hV1 hV3 hbv K1 K2 K3 KX HK HST lA lB lC lD hX HB1
              go_wp2_with fail
              rw [← HV3.out]
              go_roundw
              case rel => exact ⟨i + 1, by simp, by omega, _, rfl, HK2, HB3⟩
              case measure => simp [intOf]; omega
            · have hk2 : (kd == 1) = false := by simpa using hkd
              have cD : V1.cell? ⟨w.heap.size, D', none⟩ = some (.bool (oi.getD D' false)) := by rw [K1.cell]; exact boolsA_at _ _ lD
              have fD := K1.free D'
              have K2 := K1.put D' (.bool true)
              rw [boolsA_put] at K2
              obtain ⟨V3, hV3⟩ : ∃ V3, V3 = V1.setCell ⟨w.heap.size, D', none⟩ (.bool true) := ⟨_, rfl⟩
              have HK2 : Hid (Blk V3 w.heap.size 4 (boolsA ((l.take (i + 1)).foldl ledL o))) := Lib.hid (by rw [HST.out, hX, hV3, if_pos rfl, if_neg hkd]; exact K2)
              have HB3 : Hid (Below w.heap.size w V3) := Lib.hid (by rw [hV3]; exact HB1.out.setCell (p := ⟨w.heap.size, D', none⟩) (Nat.le_refl _) _)
              have HV3 : Hid (V3 = (wr.alloc (Obj.cells #[.int .i64 kd, .int .i64 (A' : Int), .int .i64 (B' : Int), .int .i64 (C' : Int), .int .i64 (D' : Int)] 37)).setCell ⟨w.heap.size, D', none⟩ (.bool true)) := Lib.hid (by rw [hV3, hV1])
              rw [hV1] at cA lw cD fD
              clear hV1 hV3 hbv K1 K2 KX HK HST lA lB lC lD hX HB1 hkd
              go_wp2_with fail
              rw [← HV3.out]
              go_roundw
              case rel => exact ⟨i + 1, by simp, by omega, _, rfl, HK2, HB3⟩
              case measure => simp [intOf]; omega
        · obtain rfl : i = n := by omega
          have HK2 : Hid (Blk wr w.heap.size 4 (boolsA o1)) := Lib.hid (by have := HK.out; rw [List.take_of_length_le (by rw [HL.out]; omega), hfin.out] at this; exact this)
          go_wp2_with fail
          go_roundw
          case rel => exact ⟨q + 1, o1, by simp, by omega, Lib.hid (.inr ⟨by omega, rfl⟩), _, rfl, HK2, HB⟩
          case measure => simp [intOf]; omega
    · obtain rfl : q = N := by omega
      have h1 : o = o1 := by rcases HQ.out with ⟨e, _⟩ | ⟨_, e⟩ <;> first | exact e | omega
      subst h1
      have c0 : wr.cell? ⟨w.heap.size, a, none⟩ = some (.bool (o.getD a false)) := by rw [HK.out.cell]; exact boolsA_at _ _ (by rw [hoN.out]; exact ha)
      have f0 := HK.out.free a
      have lw := HK.out.lt
      have HK2 : Hid (Blk (wr.setCell ⟨w.heap.size, a, none⟩ (.bool false)) w.heap.size 4 (boolsA (o.set a false))) := Lib.hid (by rw [← boolsA_put]; exact HK.out.put a _)
      have HB2 := Lib.hid (HB.out.setCell (p := ⟨w.heap.size, a, none⟩) (Nat.le_refl _) (.bool false))
      go_wp2_with fail
      go_ret
      refine ⟨w.heap.size, o.set a false, rfl, by simp [hoN.out], HK2.out, fun y hy => ?_, HB2.out⟩
      rw [List.getD_eq_getElem?_getD, List.getElem?_set]
      by_cases e : a = y
      · subst e; simp [hoN.out, ha]
      · rw [if_neg e, ← List.getD_eq_getElem?_getD, HF1.out]
        exact ⟨fun h => ⟨fun k => e k.symm, h⟩, fun h => h.2⟩
end Go.Proofs.Ytjpimaiogdckpaa
