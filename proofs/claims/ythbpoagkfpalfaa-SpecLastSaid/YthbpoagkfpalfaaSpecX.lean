/-
  SPEC: takes; what was pushed and what was sent.
-/
import Derived.Test.YthbpoagkfpalfaaRows
import Derived.ProofKit
import Derived.Deep.QuietTactic
import Derived.BigQuiet
import Derived.LoopTactic
import Derived.Test.YthbpoagkfpalfaaSpecW
import Derived.Maps.AppendAt
import Derived.Test.YthbpoagkfpalfaaOwn
import Derived.Test.YthbpoagkfpalfaaRows2
namespace Go.Proofs.Ythbpoagkfpalfaa
open Go.ChangeShapes Go.WideShapes Go.ChangeAt Go.RowKit

theorem op_info : (Try.prog.info? 26).map (fun i => (i.zero, i.size, i.bytes)) = some (some (.agg #[.int .i64 0, .int .i64 0, .int .i64 0, .int .i64 0]), 4, 32) := by kernel_rfl
theorem repl_snoc (k : Nat) (x : OpV) : List.replicate (k + 1) x = List.replicate k x ++ [x] := by
  rw [List.replicate_succ']
set_option maxRecDepth 100000 in
set_option maxHeartbeats 4000000 in
theorem takes_any (kd : Int) (n : Nat) (hn : n ≤ 1000) (w : World) : Calls Try.prog 17 #[.int .i64 kd, .int .i64 n] w fun e w' => ∃ q cap, e = .returned (.slice q n cap) ∧ Ods w' q (List.replicate n ⟨kd, 0, 0, 0⟩) ∧ Below w.heap.size w w' ∧ ∀ b off, q = some ⟨b, off, none⟩ → w.heap.size ≤ b := by
  obtain ⟨i0, hi0, hz0, hz1, hz2⟩ := info_parts op_info
  go_enter Try.func17, Try.ntmps17
  go_wp2_with fail
  go_loopw [5, 6] (fun v i wr => ∃ k : Nat, i = .int .i64 k ∧ k ≤ n ∧ ∃ W', W' = wr ∧ W'.ownsRow w.heap.size 26 4 v k (odV (List.replicate k ⟨kd, 0, 0, 0⟩)) ∧ Below w.heap.size w W') (fun _ i _ => n - (intOf i).toNat)
  case atStart => exact ⟨0, rfl, by omega, _, rfl, World.ownsRow_nil _ _ _ _, Below.refl _ _⟩
  case round =>
    obtain ⟨k, rfl, hk, wr, rfl, hown, hb⟩ := hrel
    obtain ⟨qg, cg, rfl⟩ := own_slice hown
    by_cases hlt : k < n
    · obtain ⟨W2, hW2⟩ : ∃ W, W = wr.alloc (Obj.cells #[.int .i64 kd, .int .i64 0, .int .i64 0, .int .i64 0] 26) := ⟨_, rfl⟩
      have KN : Blk W2 wr.heap.size 26 #[.int .i64 kd, .int .i64 0, .int .i64 0, .int .i64 0] := by rw [hW2]; exact Blk.made wr _ _
      have hb12 : Below wr.heap.size wr W2 := by rw [hW2]; exact below_alloc1 wr _
      have hB2 := hb.trans (hb12.mono hb.size)
      have hO2 := own_below hown hb12
      have hnews : ∀ j u, (OpV.cells ⟨kd, 0, 0, 0⟩)[j]? = some u → W2.cell? ((⟨wr.heap.size, 0, none⟩ : Addr).add j) = some u := by
        intro j u hu
        rw [addr_add, Nat.zero_add, KN.cell]
        simpa [OpV.cells] using hu
      have hlow : Hid (∀ i', (Value.slice qg k cg).ownBlock = some i' → w.heap.size ≤ i') := Lib.hid fun i' hi' => (hO2.lt i' hi').1
      have HW2 := Lib.hid hW2
      have HO2 := Lib.hid hO2
      have HBB := Lib.hid hB2
      have HNW := Lib.hid hnews
      clear hW2 KN hb12 hB2 hO2 hnews hown hb
      go_wp2_with (at_builtin; rw [← HW2.out]; refine wpList_append_own_at W2 rfl (.tmp 12) (.tmp 15) _ rfl w.heap.size 26 i0 _ 4 32 Try.underlying38 hi0 hz0 hz1 hz2 rfl (by omega) _ k _ rfl HO2.out ⟨wr.heap.size, 0, none⟩ 1 1 (OpV.cells ⟨kd, 0, 0, 0⟩) rfl rfl HNW.out (by simp [OpV.cells, Value.oneCell']) (by unfold maxLen; omega) (by omega) HBB.out.size ?_; intro v4 w4 hown4 hg4 _ _)
      have hB4 : Below w.heap.size w w4 := below_gb HBB.out hg4 HBB.out.size hlow.out
      have hown5 : w4.ownsRow w.heap.size 26 4 v4 (k + 1) (odV (List.replicate (k + 1) ⟨kd, 0, 0, 0⟩)) := by
        rw [repl_snoc, odV_snoc]; exact hown4
      have HB4 := Lib.hid hB4
      have HO5 := Lib.hid hown5
      clear hB4 hown5 hown4 hg4
      go_wp2_with fail
      go_roundw
      case rel => exact ⟨k + 1, by simp, by omega, _, rfl, HO5.out, HB4.out⟩
      case measure => simp [intOf]; omega
    · obtain rfl : k = n := by omega
      have hdi : decide ((k : Int) < k) = false := by simp
      have HOD := Lib.hid (Ods.of_own hown)
      have HLT := Lib.hid fun i hi => (hown.lt i hi).1
      have HB := Lib.hid hb
      clear hown hb
      go_wp2_with fail
      go_ret
      refine ⟨qg, cg, rfl, HOD.out, HB.out, fun b off e => HLT.out b ?_⟩
      subst e
      rfl
theorem do_push (a : Int) (vs : List Int) : doC ⟨2, [], vs⟩ ⟨4, 0, a, 0⟩ = (⟨2, [], a :: vs⟩, 0, true) := by simp [doC, kindOf, rightC, pushC]
theorem do_pop0 : doC ⟨2, [], []⟩ ⟨5, 0, 0, 0⟩ = (⟨2, [], []⟩, 0, false) := by decide
theorem do_pop (a : Int) (vs : List Int) : doC ⟨2, [], a :: vs⟩ ⟨5, 0, 0, 0⟩ = (⟨2, [], vs⟩, a, true) := by simp [doC, kindOf, rightC, firstC]
theorem do_send (a : Int) (vs : List Int) : doC ⟨3, [], vs⟩ ⟨6, 0, a, 0⟩ = (⟨3, [], vs ++ [a]⟩, 0, true) := by simp [doC, kindOf, rightC, sendC]
theorem do_recv0 : doC ⟨3, [], []⟩ ⟨7, 0, 0, 0⟩ = (⟨3, [], []⟩, 0, false) := by decide
theorem do_recv (a : Int) (vs : List Int) : doC ⟨3, [], a :: vs⟩ ⟨7, 0, 0, 0⟩ = (⟨3, [], vs⟩, a, true) := by simp [doC, kindOf, rightC, firstC]
theorem all_push : ∀ (l vs : List Int), (allC ⟨2, [], vs⟩ (l.map fun a => ⟨4, 0, a, 0⟩)).1 = ⟨2, [], l.reverse ++ vs⟩
  | [], vs => rfl
  | a :: l, vs => by
    show (allC (doC ⟨2, [], vs⟩ ⟨4, 0, a, 0⟩).1 (l.map fun a => ⟨4, 0, a, 0⟩)).1 = _
    rw [do_push, all_push l (a :: vs)]; simp
theorem all_send : ∀ (l vs : List Int), (allC ⟨3, [], vs⟩ (l.map fun a => ⟨6, 0, a, 0⟩)).1 = ⟨3, [], vs ++ l⟩
  | [], vs => by simp [allC]
  | a :: l, vs => by
    show (allC (doC ⟨3, [], vs⟩ ⟨6, 0, a, 0⟩).1 (l.map fun a => ⟨6, 0, a, 0⟩)).1 = _
    rw [do_send, all_send l (vs ++ [a])]; simp
theorem all_pops : ∀ (vs : List Int), allC ⟨2, [], vs⟩ (List.replicate (vs.length + 1) ⟨5, 0, 0, 0⟩) = (⟨2, [], []⟩, vs ++ [0], List.replicate vs.length true ++ [false])
  | [] => by simp [allC, do_pop0]
  | a :: vs => by
    show (allC ⟨2, [], a :: vs⟩ (⟨5, 0, 0, 0⟩ :: List.replicate (vs.length + 1) ⟨5, 0, 0, 0⟩)) = _
    rw [allC, do_pop, all_pops vs]; simp [List.replicate_succ]
theorem all_recvs : ∀ (vs : List Int), allC ⟨3, [], vs⟩ (List.replicate (vs.length + 1) ⟨7, 0, 0, 0⟩) = (⟨3, [], []⟩, vs ++ [0], List.replicate vs.length true ++ [false])
  | [] => by simp [allC, do_recv0]
  | a :: vs => by
    show (allC ⟨3, [], a :: vs⟩ (⟨7, 0, 0, 0⟩ :: List.replicate (vs.length + 1) ⟨7, 0, 0, 0⟩)) = _
    rw [allC, do_recv, all_recvs vs]; simp [List.replicate_succ]
end Go.Proofs.Ythbpoagkfpalfaa
