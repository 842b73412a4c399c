/-
  TRACE: mapped, at both its functions; Picks. Written by wip/tools/gen/trc.py.
-/
import Derived.Test.YtbfbfpjfmdannaaTrB
import Derived.Laws.EntriesVeiled
import Derived.LoopTactic
namespace Go.Proofs.Ytbfbfpjfmdannaa
open Go.ChangeShapes Go.WideShapes Go.ChangeAt Go.RowKit

def EvV.rowCells (e : EvV) : List Value := [.int .i64 e.worker, .int .i64 e.seat, .int .i64 e.kind, .int .i64 e.cell, .int .i64 e.old, .int .i64 e.new, .int .i64 e.val, .int .i64 e.ok01]
def rowsV (l : List EvV) : List Value := l.flatMap EvV.rowCells
def EvV.pick (e : EvV) : PkV := ⟨if e.kind = 0 then 3 else 1, e.worker, 0⟩
def picksV (l : List EvV) : List Value := l.flatMap fun e => e.pick.cells
theorem flat_take (f : EvV → List Value) : ∀ (l : List EvV) (i : Nat) (h : i < l.length), (l.take (i + 1)).flatMap f = (l.take i).flatMap f ++ f l[i]
  | e :: l, 0, _ => by simp
  | e :: l, i + 1, h => by
    have hi : i < l.length := by simpa using h
    show ((e :: l.take (i + 1))).flatMap f = (e :: l.take i).flatMap f ++ f l[i]
    rw [List.flatMap_cons, List.flatMap_cons, flat_take f l i hi, List.append_assoc]
theorem flat_len (f : EvV → List Value) (k : Nat) (hf : ∀ e, (f e).length = k) : ∀ l : List EvV, (l.flatMap f).length = l.length * k
  | [] => by simp
  | e :: l => by rw [List.flatMap_cons, List.length_append, hf, flat_len f k hf l, List.length_cons, Nat.succ_mul, Nat.add_comm]

theorem mapRowInfo : (Try.prog.info? 59).map (fun i => (i.zero, i.size, i.bytes)) = some (some (.agg #[.int .i64 0, .int .i64 0, .int .i64 0, .int .i64 0, .int .i64 0, .int .i64 0, .int .i64 0, .int .i64 0]), 8, 64) := by kernel_rfl
set_option maxRecDepth 100000 in
theorem mapRow_make (n : Nat) (hn : n ≤ 1000000) (w : World) : (Instr.makeSlice 56 (.int .i64 (n : Int)) (.int .i64 (n : Int))).run Try.prog w = .ok (.slice (some ⟨w.heap.size, 0, none⟩) n n) (w.alloc (.cells (madeCells #[Value.int .i64 0, Value.int .i64 0, Value.int .i64 0, Value.int .i64 0, Value.int .i64 0, Value.int .i64 0, Value.int .i64 0, Value.int .i64 0] (n * 8)) 59)) := by
  obtain ⟨i0, hi0⟩ : ∃ i, Try.prog.info? 59 = some i := ⟨_, rfl⟩
  have hz := mapRowInfo
  rw [hi0] at hz
  simp only [Option.map_some, Option.some.injEq, Prod.mk.injEq] at hz
  obtain ⟨hz0, hz1, hz2⟩ := hz
  have hr := run_make (P := Try.prog) w 56 59 i0 _ Try.underlying56 hi0 hz0 .i64 .i64 n n (by omega) (Int.le_refl _) (by rw [hz2]; omega) (by omega)
  rw [hz1] at hr
  simp only [Int.toNat_natCast] at hr
  exact hr

set_option maxRecDepth 100000 in
set_option maxHeartbeats 4000000 in
theorem mapRow_any (p : Option Addr) (l : List EvV) (n cap : Nat) (hn : l.length = n) (hm : n ≤ 1000) (w : World) (E : Evs w p l) :
    Calls Try.prog 23 #[.slice p n cap, .func (.func 24) #[] #[]] w fun r w' => ∃ g, r = .returned (.slice (some ⟨g, 0, none⟩) n n) ∧ w.heap.size ≤ g ∧ Cells w' (some ⟨g, 0, none⟩) (rowsV l) ∧ Below w.heap.size w w' := by
  have HN := Lib.hid hn
  clear hn
  have hmk := fun wx => mapRow_make n (by omega) wx
  obtain ⟨V, hV⟩ : ∃ V, V = w.alloc (Obj.cells (madeCells #[Value.int .i64 0, Value.int .i64 0, Value.int .i64 0, Value.int .i64 0, Value.int .i64 0, Value.int .i64 0, Value.int .i64 0, Value.int .i64 0] (n * 8)) 59) := ⟨_, rfl⟩
  have HF : Hid (Fill V w.heap.size 59 (n * 8) (rowsV (l.take 0))) := Lib.hid (by rw [hV]; have := Fill.made w 59 (madeCells #[Value.int .i64 0, Value.int .i64 0, Value.int .i64 0, Value.int .i64 0, Value.int .i64 0, Value.int .i64 0, Value.int .i64 0, Value.int .i64 0] (n * 8)); rwa [size_madeCells] at this)
  have HB : Hid (Below w.heap.size w V) := Lib.hid (by rw [hV]; exact bel_alloc (Below.refl _ _) _)
  have HV := Lib.hid hV
  have HE := Lib.hid E
  clear E hV
  go_enter Try.func23, Try.ntmps23
  go_wp2_with fail
  rw [← HV.out]
  go_loopw [13] (fun vi wr => ∃ i : Nat, vi = .int .i64 i ∧ i ≤ n ∧ ∃ W', W' = wr ∧ Hid (Fill W' w.heap.size 59 (n * 8) (rowsV (l.take i))) ∧ Hid (Below w.heap.size w W')) (fun vi _ => n - (intOf vi).toNat)
  case atStart => exact ⟨0, rfl, by omega, _, rfl, HF, HB⟩
  case round =>
    clear HF HB HV
    obtain ⟨i, rfl, hi, wr, rfl, HF, HB⟩ := hrel
    by_cases hlt : i < n
    · have hil : i < l.length := by rw [HN.out]; exact hlt
      obtain ⟨⟨e0, e1, e2, e3, e4, e5, e6, e7⟩, hx⟩ : ∃ x, l[i] = x := ⟨_, rfl⟩
      have hat := (HE.out.later HB.out).at_ i hil
      rw [hx] at hat
      obtain ⟨b, off, rfl, hbl, g0, g1, g2, g3, g4, g5, g6, g7⟩ := hat
      dsimp only at g0 g1 g2 g3 g4 g5 g6 g7
      obtain ⟨Z, hZ⟩ : ∃ Z, (EvV.mk e0 e1 e2 e3 e4 e5 e6 e7).ok01 = Z := ⟨_, rfl⟩
      have hcall : ∀ wx, Calls Try.prog 24 #[.agg #[.int .i64 e0, .int .i64 e1, .int .i64 e2, .int .i64 e3, .int .i64 e4, .int .i64 e5, .int .i64 e6, .bool e7]] wx fun r w' => r = .returned (.agg #[.int .i64 e0, .int .i64 e1, .int .i64 e2, .int .i64 e3, .int .i64 e4, .int .i64 e5, .int .i64 e6, .int .i64 Z]) ∧ Below wx.heap.size wx w' := fun wx => by
        have h := rowOf_any ⟨e0, e1, e2, e3, e4, e5, e6, e7⟩ wx
        rw [← hZ]; exact h
      have HX : Hid (rowsV (l.take (i + 1)) = rowsV (l.take i) ++ [.int .i64 e0, .int .i64 e1, .int .i64 e2, .int .i64 e3, .int .i64 e4, .int .i64 e5, .int .i64 e6, .int .i64 Z]) := Lib.hid (by
        unfold rowsV
        rw [flat_take _ l i hil, hx]
        rw [← hZ]; rfl)
      have HLN : Hid ((rowsV (l.take i)).length = i * 8) := Lib.hid (by unfold rowsV; rw [flat_len _ 8 (fun _ => rfl), List.length_take, HN.out, Nat.min_eq_left hi])
      have HCALL := Lib.hid hcall
      obtain ⟨V1, hV1⟩ : ∃ V1, V1 = wr.alloc (Obj.cells #[.int .i64 e0, .int .i64 e1, .int .i64 e2, .int .i64 e3, .int .i64 e4, .int .i64 e5, .int .i64 e6, .bool e7] 48) := ⟨_, rfl⟩
      have KB : Blk V1 wr.heap.size 48 #[.int .i64 e0, .int .i64 e1, .int .i64 e2, .int .i64 e3, .int .i64 e4, .int .i64 e5, .int .i64 e6, .bool e7] := by rw [hV1]; exact Blk.made _ _ _
      have hbv : Below wr.heap.size wr V1 := by rw [hV1]; exact bel_alloc (Below.refl _ _) _
      have HF := Lib.hid (HF.out.later hbv)
      have HB := Lib.hid (HB.out.trans (hbv.mono HB.out.size))
      have HKB := Lib.hid KB
      have HV1 := Lib.hid hV1
      clear hV1 hbv KB hx hZ hcall
      go_wp2_with fail
      rw [← HV1.out]
      refine (HCALL.out _).mono ?_
      rintro r w3 ⟨rfl, hb3⟩
      have HF := Lib.hid (HF.out.later hb3)
      have HB := Lib.hid (HB.out.trans (hb3.mono HB.out.size))
      have hS8 : (i + 1) * 8 ≤ n * 8 := Nat.mul_le_mul_right _ hlt
      have HTH : Hid (w3.there w.heap.size (i * 8) 8) := Lib.hid (by have := HF.out.there (k := 8) (by rw [HLN.out]; omega); rwa [HLN.out] at this)
      have HF2 : Hid (Fill (w3.setCells w.heap.size (i * 8) [.int .i64 e0, .int .i64 e1, .int .i64 e2, .int .i64 e3, .int .i64 e4, .int .i64 e5, .int .i64 e6, .int .i64 Z]) w.heap.size 59 (n * 8) (rowsV (l.take (i + 1)))) := Lib.hid (by
        have := HF.out.put [.int .i64 e0, .int .i64 e1, .int .i64 e2, .int .i64 e3, .int .i64 e4, .int .i64 e5, .int .i64 e6, .int .i64 Z] (by rw [HLN.out]; show _ + 8 ≤ _; omega)
        rw [HLN.out] at this
        rw [HX.out]; exact this)
      have HGW : Hid (off + i * 8 < off + i * 8 + 1) := Lib.hid (by omega)
      clear hb3 g0 g1 g2 g3 g4 g5 g6 g7
      go_wp2_with ((with_reducible (show wpList _ _ _ ({ dst := none, op := Op.store _ _ _, type := _, pos := _, after := _, guard := none } :: _) _ _)); refine wpList_store_mid rfl 59 _ _ rfl w.heap.size (i * 8) _ rfl rfl HTH.out rowI (by simp [Value.oneCell']) ?_)
      have HB := Lib.hid (below_setCells (Nat.le_refl _) [.int .i64 e0, .int .i64 e1, .int .i64 e2, .int .i64 e3, .int .i64 e4, .int .i64 e5, .int .i64 e6, .int .i64 Z] (i * 8) HB.out)
      go_roundw
      case rel => exact ⟨i + 1, by simp, by omega, _, rfl, HF2, HB⟩
      case measure => simp [intOf]; omega
    · obtain rfl : i = n := by omega
      go_wp2_with fail
      go_ret
      exact ⟨_, rfl, Nat.le_refl _, by have := HF.out.cells; rwa [List.take_of_length_le (by rw [HN.out]; omega)] at this, HB.out⟩

theorem mapPickInfo : (Try.prog.info? 55).map (fun i => (i.zero, i.size, i.bytes)) = some (some (.agg #[.int .i64 0, .int .i64 0, .int .i64 0]), 3, 24) := by kernel_rfl
set_option maxRecDepth 100000 in
theorem mapPick_make (n : Nat) (hn : n ≤ 1000000) (w : World) : (Instr.makeSlice 31 (.int .i64 (n : Int)) (.int .i64 (n : Int))).run Try.prog w = .ok (.slice (some ⟨w.heap.size, 0, none⟩) n n) (w.alloc (.cells (madeCells #[Value.int .i64 0, Value.int .i64 0, Value.int .i64 0] (n * 3)) 55)) := by
  obtain ⟨i0, hi0⟩ : ∃ i, Try.prog.info? 55 = some i := ⟨_, rfl⟩
  have hz := mapPickInfo
  rw [hi0] at hz
  simp only [Option.map_some, Option.some.injEq, Prod.mk.injEq] at hz
  obtain ⟨hz0, hz1, hz2⟩ := hz
  have hr := run_make (P := Try.prog) w 31 55 i0 _ Try.underlying31 hi0 hz0 .i64 .i64 n n (by omega) (Int.le_refl _) (by rw [hz2]; omega) (by omega)
  rw [hz1] at hr
  simp only [Int.toNat_natCast] at hr
  exact hr

set_option maxRecDepth 100000 in
set_option maxHeartbeats 4000000 in
theorem mapPick_any (p : Option Addr) (l : List EvV) (n cap : Nat) (hn : l.length = n) (hm : n ≤ 1000) (w : World) (E : Evs w p l) :
    Calls Try.prog 30 #[.slice p n cap, .func (.func 31) #[] #[]] w fun r w' => ∃ g, r = .returned (.slice (some ⟨g, 0, none⟩) n n) ∧ w.heap.size ≤ g ∧ Cells w' (some ⟨g, 0, none⟩) (picksV l) ∧ Below w.heap.size w w' := by
  have HN := Lib.hid hn
  clear hn
  have hmk := fun wx => mapPick_make n (by omega) wx
  obtain ⟨V, hV⟩ : ∃ V, V = w.alloc (Obj.cells (madeCells #[Value.int .i64 0, Value.int .i64 0, Value.int .i64 0] (n * 3)) 55) := ⟨_, rfl⟩
  have HF : Hid (Fill V w.heap.size 55 (n * 3) (picksV (l.take 0))) := Lib.hid (by rw [hV]; have := Fill.made w 55 (madeCells #[Value.int .i64 0, Value.int .i64 0, Value.int .i64 0] (n * 3)); rwa [size_madeCells] at this)
  have HB : Hid (Below w.heap.size w V) := Lib.hid (by rw [hV]; exact bel_alloc (Below.refl _ _) _)
  have HV := Lib.hid hV
  have HE := Lib.hid E
  clear E hV
  go_enter Try.func30, Try.ntmps30
  go_wp2_with fail
  rw [← HV.out]
  go_loopw [13] (fun vi wr => ∃ i : Nat, vi = .int .i64 i ∧ i ≤ n ∧ ∃ W', W' = wr ∧ Hid (Fill W' w.heap.size 55 (n * 3) (picksV (l.take i))) ∧ Hid (Below w.heap.size w W')) (fun vi _ => n - (intOf vi).toNat)
  case atStart => exact ⟨0, rfl, by omega, _, rfl, HF, HB⟩
  case round =>
    clear HF HB HV
    obtain ⟨i, rfl, hi, wr, rfl, HF, HB⟩ := hrel
    by_cases hlt : i < n
    · have hil : i < l.length := by rw [HN.out]; exact hlt
      obtain ⟨⟨e0, e1, e2, e3, e4, e5, e6, e7⟩, hx⟩ : ∃ x, l[i] = x := ⟨_, rfl⟩
      have hat := (HE.out.later HB.out).at_ i hil
      rw [hx] at hat
      obtain ⟨b, off, rfl, hbl, g0, g1, g2, g3, g4, g5, g6, g7⟩ := hat
      dsimp only at g0 g1 g2 g3 g4 g5 g6 g7
      obtain ⟨Z, hZ⟩ : ∃ Z, (if e2 = 0 then (3 : Int) else 1) = Z := ⟨_, rfl⟩
      have hcall : ∀ wx, Calls Try.prog 31 #[.agg #[.int .i64 e0, .int .i64 e1, .int .i64 e2, .int .i64 e3, .int .i64 e4, .int .i64 e5, .int .i64 e6, .bool e7]] wx fun r w' => r = .returned (.agg #[.int .i64 Z, .int .i64 e0, .int .i64 0]) ∧ Below wx.heap.size wx w' := fun wx => by
        have h := pickOf_any ⟨e0, e1, e2, e3, e4, e5, e6, e7⟩ wx
        rw [← hZ]; exact h
      have HX : Hid (picksV (l.take (i + 1)) = picksV (l.take i) ++ [.int .i64 Z, .int .i64 e0, .int .i64 0]) := Lib.hid (by
        unfold picksV
        rw [flat_take _ l i hil, hx]
        rw [← hZ]; rfl)
      have HLN : Hid ((picksV (l.take i)).length = i * 3) := Lib.hid (by unfold picksV; rw [flat_len _ 3 (fun _ => rfl), List.length_take, HN.out, Nat.min_eq_left hi])
      have HCALL := Lib.hid hcall
      obtain ⟨V1, hV1⟩ : ∃ V1, V1 = wr.alloc (Obj.cells #[.int .i64 e0, .int .i64 e1, .int .i64 e2, .int .i64 e3, .int .i64 e4, .int .i64 e5, .int .i64 e6, .bool e7] 48) := ⟨_, rfl⟩
      have KB : Blk V1 wr.heap.size 48 #[.int .i64 e0, .int .i64 e1, .int .i64 e2, .int .i64 e3, .int .i64 e4, .int .i64 e5, .int .i64 e6, .bool e7] := by rw [hV1]; exact Blk.made _ _ _
      have hbv : Below wr.heap.size wr V1 := by rw [hV1]; exact bel_alloc (Below.refl _ _) _
      have HF := Lib.hid (HF.out.later hbv)
      have HB := Lib.hid (HB.out.trans (hbv.mono HB.out.size))
      have HKB := Lib.hid KB
      have HV1 := Lib.hid hV1
      clear hV1 hbv KB hx hZ hcall
      go_wp2_with fail
      rw [← HV1.out]
      refine (HCALL.out _).mono ?_
      rintro r w3 ⟨rfl, hb3⟩
      have HF := Lib.hid (HF.out.later hb3)
      have HB := Lib.hid (HB.out.trans (hb3.mono HB.out.size))
      have hS8 : (i + 1) * 3 ≤ n * 3 := Nat.mul_le_mul_right _ hlt
      have HTH : Hid (w3.there w.heap.size (i * 3) 3) := Lib.hid (by have := HF.out.there (k := 3) (by rw [HLN.out]; omega); rwa [HLN.out] at this)
      have HF2 : Hid (Fill (w3.setCells w.heap.size (i * 3) [.int .i64 Z, .int .i64 e0, .int .i64 0]) w.heap.size 55 (n * 3) (picksV (l.take (i + 1)))) := Lib.hid (by
        have := HF.out.put [.int .i64 Z, .int .i64 e0, .int .i64 0] (by rw [HLN.out]; show _ + 3 ≤ _; omega)
        rw [HLN.out] at this
        rw [HX.out]; exact this)
      have HGW : Hid (off + i * 8 < off + i * 8 + 1) := Lib.hid (by omega)
      clear hb3 g0 g1 g2 g3 g4 g5 g6 g7
      go_wp2_with ((with_reducible (show wpList _ _ _ ({ dst := none, op := Op.store _ _ _, type := _, pos := _, after := _, guard := none } :: _) _ _)); refine wpList_store_mid rfl 55 _ _ rfl w.heap.size (i * 3) _ rfl rfl HTH.out pkI (by simp [Value.oneCell']) ?_)
      have HB := Lib.hid (below_setCells (Nat.le_refl _) [.int .i64 Z, .int .i64 e0, .int .i64 0] (i * 3) HB.out)
      go_roundw
      case rel => exact ⟨i + 1, by simp, by omega, _, rfl, HF2, HB⟩
      case measure => simp [intOf]; omega
    · obtain rfl : i = n := by omega
      go_wp2_with fail
      go_ret
      exact ⟨_, rfl, Nat.le_refl _, by have := HF.out.cells; rwa [List.take_of_length_le (by rw [HN.out]; omega)] at this, HB.out⟩

end Go.Proofs.Ytbfbfpjfmdannaa
