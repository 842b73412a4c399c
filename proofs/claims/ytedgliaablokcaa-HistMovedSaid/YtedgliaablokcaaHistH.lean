/-
  HIST: the examples; makers of rows of calls.
-/
import Derived.Test.YtedgliaablokcaaRows
import Derived.ProofKit
import Derived.Deep.QuietTactic
import Derived.BigQuiet
import Derived.LoopTactic
import Derived.Test.YtedgliaablokcaaOwn
import Derived.Test.YtedgliaablokcaaHistE
import Derived.Test.YtedgliaablokcaaHistS
import Derived.Test.YtedgliaablokcaaHistF
import Derived.Test.YtedgliaablokcaaHistG
import Derived.Test.YtedgliaablokcaaGrow
namespace Go.Proofs.Ytedgliaablokcaa
open Go.ChangeShapes Go.WideShapes Go.ChangeAt Go.RowKit

/-- a row of n calls -/
def callsM (n : Nat) (l : List CallV) : Maker := ⟨fun v => ∃ p cap, v = .slice p n cap, fun v w => ∃ p cap, v = .slice p n cap ∧ Hcs w p l, ⟨_, none, 0, rfl⟩,
  fun _ _ _ ⟨p, c, h1, h2⟩ hb => ⟨p, c, h1, h2.later hb⟩⟩
theorem calls_make {P : Program} {w : World} {f : FuncId} {args : Array Value} {n : Nat} {l : List CallV} (hn : l.length = n) (h : Calls P f args w (CallsPost w l)) : makeUpon P (callsM n l) w (.ok (.enter f args) w) := by
  subst hn
  exact make_call (h.mono fun _ _ ⟨p, c, he, hc, hb⟩ => ⟨_, he, ⟨p, c, rfl⟩, ⟨p, c, rfl, hc⟩, hb⟩)
theorem calls_fact {n c : Nat} {l : List CallV} {p : Option Addr} {w : World} (h : (callsM n l).S (.slice p n c) w) : Hcs w p l := by
  obtain ⟨p', c', e, hc⟩ := h
  injection e with e
  rw [e]; exact hc
theorem Hcs.of_blk {w : World} {g : Nat} {t : TypeId} {cs : Array Value} {l : List CallV} (h : Blk w g t cs) (hc : cs.toList = hcV l) : Hcs w (some ⟨g, 0, none⟩) l :=
  .of_cells ⟨fun i hi => ⟨g, 0, rfl, h.lt, by rw [Nat.zero_add, h.cell, ← Array.getElem?_toList, hc, List.getElem?_eq_getElem hi]⟩⟩
theorem calls_build {P : Program} {w : World} {t : TypeId} {cs : Array Value} {n : Nat} {l : List CallV} (hc : cs.toList = hcV l) : makeUpon P (callsM n l) w (.ok (.value (.slice (some ⟨w.heap.size, 0, none⟩) n n)) (w.alloc (Obj.cells cs t))) :=
  ⟨⟨_, _, rfl⟩, ⟨_, _, rfl, Hcs.of_blk (Blk.made w t cs) hc⟩, (Below.refl _ w).alloc (Nat.le_refl _) _⟩

theorem hof_n (l : List CallV) (n : Nat) (hn : l.length = n) (p : Option Addr) (cap : Nat) (kind obj : Int) (w : World) (h : Hcs w p l) (hl : n ≤ 1000000) :
    Calls Try.prog 11 #[.slice p n cap, .int .i64 kind, .int .i64 obj] w (CallsPost w (l.filter fun c => (kindOf c.kind == kind) && (c.obj == obj))) := by
  subst hn; exact hof_any l p cap kind obj w h hl
theorem hseat_n (l : List CallV) (n : Nat) (hn : l.length = n) (p : Option Addr) (cap : Nat) (who : Int) (w : World) (h : Hcs w p l) (hl : n ≤ 1000000) :
    Calls Try.prog 12 #[.slice p n cap, .int .i64 who] w (CallsPost w (l.filter fun c => c.who == who)) := by
  subst hn; exact hseat_any l p cap who w h hl
theorem hupto_n (l : List CallV) (n : Nat) (hn : l.length = n) (p : Option Addr) (cap : Nat) (step : Int) (w : World) (h : Hcs w p l) (hl : n ≤ 1000000) :
    Calls Try.prog 13 #[.slice p n cap, .int .i64 step] w (CallsPost w (l.filter fun c => decide (c.last ≤ step))) := by
  subst hn; exact hupto_any l p cap step w h hl
theorem right_n (l : List CallV) (n : Nat) (hn : l.length = n) (r : Bool) (hr : rightB l = r) (p : Option Addr) (cap : Nat) (w : World) (h : Hcs w p l) (hl : n ≤ 1000000) :
    Calls Try.prog 14 #[.slice p n cap] w fun e w' => e = .returned (.bool r) ∧ Below w.heap.size w w' := by
  subst hn; subst hr; exact right_any l p cap w h hl
theorem rright_n (l : List CallV) (n : Nat) (hn : l.length = n) (r : Bool) (hr : rightB l = r) (p : Option Addr) (cap : Nat) (w : World) (h : Hcs w p l) (hl : n ≤ 1000000) :
    Calls Try.prog 9 #[.slice p n cap] w fun e w' => e = .returned (.bool r) ∧ Below w.heap.size w w' := by
  subst hn; subst hr; exact rright_any l p cap w h hl
theorem same_n (a b : List CallV) (n m : Nat) (hn : a.length = n) (hm : b.length = m) (r : Bool) (hr : decide (a = b) = r) (p q : Option Addr) (c d : Nat) (w : World) (ha : Hcs w p a) (hb : Hcs w q b) (hl : n ≤ 1000000) (hl2 : m ≤ 1000000) :
    Calls Try.prog 15 #[.slice p n c, .slice q m d] w fun e w' => e = .returned (.bool r) ∧ Below w.heap.size w w' := by
  subst hn; subst hm; subst hr
  exact (same_any p q a b c d w ha hb hl hl2).mono fun _ _ ⟨he, k, hk⟩ => ⟨he, hk ▸ below_drewN (Below.refl _ _) k⟩

def exA : CallV := ⟨0, 2, 0, 1, 2, 0, true, 0, 3, 2⟩
def exB : CallV := ⟨1, 4, 0, 5, 0, 0, true, 1, 2, -1⟩
def exC : CallV := ⟨1, 1, 0, 1, 0, 2, true, 4, 4, 4⟩
theorem ex_abc : rightB [exA, exB, exC] = true := by decide
theorem ex_ca : rightB [exC, exA] = false := by decide
theorem ex_of : [exA, exB, exC].filter (fun c => (kindOf c.kind == 1) && (c.obj == 0)) = [exA, exC] := by decide
theorem ex_seat : [exA, exB, exC].filter (fun c => c.who == 1) = [exB, exC] := by decide
theorem ex_upto : [exA, exB, exC].filter (fun c => decide (c.last ≤ 3)) = [exA, exB] := by decide
theorem ahead_v (a b : CallV) (r : Bool) (hr : decide (a.last < b.first) = r) (w : World) : Calls Try.prog 10 #[.agg #[.int .i64 a.who, .int .i64 a.kind, .int .i64 a.obj, .int .i64 a.a, .int .i64 a.b, .int .i64 a.val, .bool a.is, .int .i64 a.first, .int .i64 a.last, .int .i64 a.point], .agg #[.int .i64 b.who, .int .i64 b.kind, .int .i64 b.obj, .int .i64 b.a, .int .i64 b.b, .int .i64 b.val, .bool b.is, .int .i64 b.first, .int .i64 b.last, .int .i64 b.point]] w fun e w' => e = .returned (.bool r) ∧ Below w.heap.size w w' := by
  subst hr; exact ahead_any a b w

set_option maxRecDepth 100000 in
set_option maxHeartbeats 8000000 in
theorem shown_any (w : World) : Calls Try.prog 8 #[] w fun e w' => e = .returned (.bool true) ∧ Below w.heap.size w w' := by
  obtain ⟨W, hW⟩ : ∃ W, W = (((w.alloc (Obj.cells #[.int .i64 0, .int .i64 2, .int .i64 0, .int .i64 1, .int .i64 2, .int .i64 0, .bool true, .int .i64 0, .int .i64 3, .int .i64 2] 30)).alloc (Obj.cells #[.int .i64 1, .int .i64 4, .int .i64 0, .int .i64 5, .int .i64 0, .int .i64 0, .bool true, .int .i64 1, .int .i64 2, .int .i64 (-1)] 30)).alloc (Obj.cells #[.int .i64 1, .int .i64 1, .int .i64 0, .int .i64 1, .int .i64 0, .int .i64 2, .bool true, .int .i64 4, .int .i64 4, .int .i64 4] 30)).alloc (Obj.cells #[.int .i64 0, .int .i64 2, .int .i64 0, .int .i64 1, .int .i64 2, .int .i64 0, .bool true, .int .i64 0, .int .i64 3, .int .i64 2, .int .i64 1, .int .i64 4, .int .i64 0, .int .i64 5, .int .i64 0, .int .i64 0, .bool true, .int .i64 1, .int .i64 2, .int .i64 (-1), .int .i64 1, .int .i64 1, .int .i64 0, .int .i64 1, .int .i64 0, .int .i64 2, .bool true, .int .i64 4, .int .i64 4, .int .i64 4] 30) := ⟨_, rfl⟩
  have hbW : Below w.heap.size w W := by rw [hW]; exact below_alloc4 w _ _ _ _
  have K3 : Blk W (w.heap.size + 1 + 1 + 1) 30 #[.int .i64 0, .int .i64 2, .int .i64 0, .int .i64 1, .int .i64 2, .int .i64 0, .bool true, .int .i64 0, .int .i64 3, .int .i64 2, .int .i64 1, .int .i64 4, .int .i64 0, .int .i64 5, .int .i64 0, .int .i64 0, .bool true, .int .i64 1, .int .i64 2, .int .i64 (-1), .int .i64 1, .int .i64 1, .int .i64 0, .int .i64 1, .int .i64 0, .int .i64 2, .bool true, .int .i64 4, .int .i64 4, .int .i64 4] := by rw [hW]; exact Blk.made3 w _ _ _ _ _
  have hL : Hid (Hcs W (some ⟨w.heap.size + 1 + 1 + 1, 0, none⟩) [exA, exB, exC]) := Lib.hid (Hcs.of_blk K3 rfl)
  have Ka : Blk W (w.heap.size) 30 #[.int .i64 0, .int .i64 2, .int .i64 0, .int .i64 1, .int .i64 2, .int .i64 0, .bool true, .int .i64 0, .int .i64 3, .int .i64 2] := by rw [hW]; exact (((Blk.made w _ _).alloc _).alloc _).alloc _
  have la := Ka.lt
  have ya0 : ∀ x : After W, x.w.cell? ⟨w.heap.size, 0, none⟩ = some (.int .i64 0) := fun x => (x.cell la).trans (Ka.cell 0)
  have ya1 : ∀ x : After W, x.w.cell? ⟨w.heap.size, 1, none⟩ = some (.int .i64 2) := fun x => (x.cell la).trans (Ka.cell 1)
  have ya2 : ∀ x : After W, x.w.cell? ⟨w.heap.size, 2, none⟩ = some (.int .i64 0) := fun x => (x.cell la).trans (Ka.cell 2)
  have ya3 : ∀ x : After W, x.w.cell? ⟨w.heap.size, 3, none⟩ = some (.int .i64 1) := fun x => (x.cell la).trans (Ka.cell 3)
  have ya4 : ∀ x : After W, x.w.cell? ⟨w.heap.size, 4, none⟩ = some (.int .i64 2) := fun x => (x.cell la).trans (Ka.cell 4)
  have ya5 : ∀ x : After W, x.w.cell? ⟨w.heap.size, 5, none⟩ = some (.int .i64 0) := fun x => (x.cell la).trans (Ka.cell 5)
  have ya6 : ∀ x : After W, x.w.cell? ⟨w.heap.size, 6, none⟩ = some (.bool true) := fun x => (x.cell la).trans (Ka.cell 6)
  have ya7 : ∀ x : After W, x.w.cell? ⟨w.heap.size, 7, none⟩ = some (.int .i64 0) := fun x => (x.cell la).trans (Ka.cell 7)
  have ya8 : ∀ x : After W, x.w.cell? ⟨w.heap.size, 8, none⟩ = some (.int .i64 3) := fun x => (x.cell la).trans (Ka.cell 8)
  have ya9 : ∀ x : After W, x.w.cell? ⟨w.heap.size, 9, none⟩ = some (.int .i64 2) := fun x => (x.cell la).trans (Ka.cell 9)
  have Kb : Blk W (w.heap.size + 1) 30 #[.int .i64 1, .int .i64 4, .int .i64 0, .int .i64 5, .int .i64 0, .int .i64 0, .bool true, .int .i64 1, .int .i64 2, .int .i64 (-1)] := by rw [hW]; exact ((Blk.made1 w _ _ _).alloc _).alloc _
  have lb := Kb.lt
  have yb0 : ∀ x : After W, x.w.cell? ⟨w.heap.size + 1, 0, none⟩ = some (.int .i64 1) := fun x => (x.cell lb).trans (Kb.cell 0)
  have yb1 : ∀ x : After W, x.w.cell? ⟨w.heap.size + 1, 1, none⟩ = some (.int .i64 4) := fun x => (x.cell lb).trans (Kb.cell 1)
  have yb2 : ∀ x : After W, x.w.cell? ⟨w.heap.size + 1, 2, none⟩ = some (.int .i64 0) := fun x => (x.cell lb).trans (Kb.cell 2)
  have yb3 : ∀ x : After W, x.w.cell? ⟨w.heap.size + 1, 3, none⟩ = some (.int .i64 5) := fun x => (x.cell lb).trans (Kb.cell 3)
  have yb4 : ∀ x : After W, x.w.cell? ⟨w.heap.size + 1, 4, none⟩ = some (.int .i64 0) := fun x => (x.cell lb).trans (Kb.cell 4)
  have yb5 : ∀ x : After W, x.w.cell? ⟨w.heap.size + 1, 5, none⟩ = some (.int .i64 0) := fun x => (x.cell lb).trans (Kb.cell 5)
  have yb6 : ∀ x : After W, x.w.cell? ⟨w.heap.size + 1, 6, none⟩ = some (.bool true) := fun x => (x.cell lb).trans (Kb.cell 6)
  have yb7 : ∀ x : After W, x.w.cell? ⟨w.heap.size + 1, 7, none⟩ = some (.int .i64 1) := fun x => (x.cell lb).trans (Kb.cell 7)
  have yb8 : ∀ x : After W, x.w.cell? ⟨w.heap.size + 1, 8, none⟩ = some (.int .i64 2) := fun x => (x.cell lb).trans (Kb.cell 8)
  have yb9 : ∀ x : After W, x.w.cell? ⟨w.heap.size + 1, 9, none⟩ = some (.int .i64 (-1)) := fun x => (x.cell lb).trans (Kb.cell 9)
  have Kc : Blk W (w.heap.size + 1 + 1) 30 #[.int .i64 1, .int .i64 1, .int .i64 0, .int .i64 1, .int .i64 0, .int .i64 2, .bool true, .int .i64 4, .int .i64 4, .int .i64 4] := by rw [hW]; exact (Blk.made2 w _ _ _ _).alloc _
  have lc := Kc.lt
  have yc0 : ∀ x : After W, x.w.cell? ⟨w.heap.size + 1 + 1, 0, none⟩ = some (.int .i64 1) := fun x => (x.cell lc).trans (Kc.cell 0)
  have yc1 : ∀ x : After W, x.w.cell? ⟨w.heap.size + 1 + 1, 1, none⟩ = some (.int .i64 1) := fun x => (x.cell lc).trans (Kc.cell 1)
  have yc2 : ∀ x : After W, x.w.cell? ⟨w.heap.size + 1 + 1, 2, none⟩ = some (.int .i64 0) := fun x => (x.cell lc).trans (Kc.cell 2)
  have yc3 : ∀ x : After W, x.w.cell? ⟨w.heap.size + 1 + 1, 3, none⟩ = some (.int .i64 1) := fun x => (x.cell lc).trans (Kc.cell 3)
  have yc4 : ∀ x : After W, x.w.cell? ⟨w.heap.size + 1 + 1, 4, none⟩ = some (.int .i64 0) := fun x => (x.cell lc).trans (Kc.cell 4)
  have yc5 : ∀ x : After W, x.w.cell? ⟨w.heap.size + 1 + 1, 5, none⟩ = some (.int .i64 2) := fun x => (x.cell lc).trans (Kc.cell 5)
  have yc6 : ∀ x : After W, x.w.cell? ⟨w.heap.size + 1 + 1, 6, none⟩ = some (.bool true) := fun x => (x.cell lc).trans (Kc.cell 6)
  have yc7 : ∀ x : After W, x.w.cell? ⟨w.heap.size + 1 + 1, 7, none⟩ = some (.int .i64 4) := fun x => (x.cell lc).trans (Kc.cell 7)
  have yc8 : ∀ x : After W, x.w.cell? ⟨w.heap.size + 1 + 1, 8, none⟩ = some (.int .i64 4) := fun x => (x.cell lc).trans (Kc.cell 8)
  have yc9 : ∀ x : After W, x.w.cell? ⟨w.heap.size + 1 + 1, 9, none⟩ = some (.int .i64 4) := fun x => (x.cell lc).trans (Kc.cell 9)
  have HR1 := Lib.hid fun (x : After W) => right_n [exA, exB, exC] 3 rfl true ex_abc (some ⟨w.heap.size + 1 + 1 + 1, 0, none⟩) 3 x.w (hL.out.later x.bel) (by omega)
  have HA1 : Hid (∀ wx, Calls Try.prog 10 #[.agg #[.int .i64 0, .int .i64 2, .int .i64 0, .int .i64 1, .int .i64 2, .int .i64 0, .bool true, .int .i64 0, .int .i64 3, .int .i64 2], .agg #[.int .i64 1, .int .i64 1, .int .i64 0, .int .i64 1, .int .i64 0, .int .i64 2, .bool true, .int .i64 4, .int .i64 4, .int .i64 4]] wx fun e w' => e = .returned (.bool true) ∧ Below wx.heap.size wx w') := Lib.hid fun wx => ahead_v exA exC true rfl wx
  have HA2 : Hid (∀ wx, Calls Try.prog 10 #[.agg #[.int .i64 1, .int .i64 4, .int .i64 0, .int .i64 5, .int .i64 0, .int .i64 0, .bool true, .int .i64 1, .int .i64 2, .int .i64 (-1)], .agg #[.int .i64 1, .int .i64 1, .int .i64 0, .int .i64 1, .int .i64 0, .int .i64 2, .bool true, .int .i64 4, .int .i64 4, .int .i64 4]] wx fun e w' => e = .returned (.bool true) ∧ Below wx.heap.size wx w') := Lib.hid fun wx => ahead_v exB exC true rfl wx
  have HA3 : Hid (∀ wx, Calls Try.prog 10 #[.agg #[.int .i64 0, .int .i64 2, .int .i64 0, .int .i64 1, .int .i64 2, .int .i64 0, .bool true, .int .i64 0, .int .i64 3, .int .i64 2], .agg #[.int .i64 1, .int .i64 4, .int .i64 0, .int .i64 5, .int .i64 0, .int .i64 0, .bool true, .int .i64 1, .int .i64 2, .int .i64 (-1)]] wx fun e w' => e = .returned (.bool false) ∧ Below wx.heap.size wx w') := Lib.hid fun wx => ahead_v exA exB false rfl wx
  have HA4 : Hid (∀ wx, Calls Try.prog 10 #[.agg #[.int .i64 1, .int .i64 4, .int .i64 0, .int .i64 5, .int .i64 0, .int .i64 0, .bool true, .int .i64 1, .int .i64 2, .int .i64 (-1)], .agg #[.int .i64 0, .int .i64 2, .int .i64 0, .int .i64 1, .int .i64 2, .int .i64 0, .bool true, .int .i64 0, .int .i64 3, .int .i64 2]] wx fun e w' => e = .returned (.bool false) ∧ Below wx.heap.size wx w') := Lib.hid fun wx => ahead_v exB exA false rfl wx
  have HO1 := Lib.hid fun (x : After W) => hof_n [exA, exB, exC] 3 rfl (some ⟨w.heap.size + 1 + 1 + 1, 0, none⟩) 3 1 0 x.w (hL.out.later x.bel) (by omega)
  rw [ex_of] at HO1
  have HO2 := Lib.hid fun (x : After W) => hseat_n [exA, exB, exC] 3 rfl (some ⟨w.heap.size + 1 + 1 + 1, 0, none⟩) 3 1 x.w (hL.out.later x.bel) (by omega)
  rw [ex_seat] at HO2
  have HO3 := Lib.hid fun (x : After W) => hupto_n [exA, exB, exC] 3 rfl (some ⟨w.heap.size + 1 + 1 + 1, 0, none⟩) 3 3 x.w (hL.out.later x.bel) (by omega)
  rw [ex_upto] at HO3
  have HS1 := Lib.hid fun p q c d wx (h1 : Hcs wx p [exA, exC]) (h2 : Hcs wx q [exA, exC]) => same_n [exA, exC] [exA, exC] 2 2 rfl rfl true (by decide) p q c d wx h1 h2 (by omega) (by omega)
  have HS2 := Lib.hid fun p q c d wx (h1 : Hcs wx p [exB, exC]) (h2 : Hcs wx q [exB, exC]) => same_n [exB, exC] [exB, exC] 2 2 rfl rfl true (by decide) p q c d wx h1 h2 (by omega) (by omega)
  have HS3 := Lib.hid fun p q c d wx (h1 : Hcs wx p [exA, exB]) (h2 : Hcs wx q [exA, exB]) => same_n [exA, exB] [exA, exB] 2 2 rfl rfl true (by decide) p q c d wx h1 h2 (by omega) (by omega)
  have HR2 := Lib.hid fun p c wx (h : Hcs wx p [exC, exA]) => right_n [exC, exA] 2 rfl false ex_ca p c wx h (by omega)
  have HW := Lib.hid hW
  have HB := Lib.hid hbW
  clear hW hbW K3 Ka Kb Kc
  go_enter Try.func8, Try.ntmps8
  go_wp2_with fail
  rw [← HW.out]
  refine wp_region_grow [(1, Maker.val (.bool true)), (5, Maker.val (.bool true)), (10, Maker.val (.bool true)), (15, Maker.val (.bool false)), (21, Maker.val (.bool false)), (26, callsM 2 [exA, exC]), (29, callsM 2 [exA, exC]), (30, Maker.val (.bool true)), (34, callsM 2 [exB, exC]), (37, callsM 2 [exB, exC]), (38, Maker.val (.bool true)), (42, callsM 2 [exA, exB]), (45, callsM 2 [exA, exB]), (46, Maker.val (.bool true)), (51, callsM 2 [exC, exA]), (52, Maker.val (.bool false))] (by kernel_rfl) (by kernel_rfl) (by kernel_rfl) ?_
  (refine wpGrow_plain rfl ?_; go_big_quiet_step (fail); refine wpQuiet_nil ?_)
  refine wpGrow_val rfl rfl (fun _ hx hF => ?_) (fun a' ha => ?_)
  · obtain ⟨x, rfl⟩ := hx
    go_simp
    exact make_val (HR1.out x)
  simp [go_sem] at ha
  subst ha
  (refine wpGrow_plain rfl ?_; go_big_quiet_step (fail); refine wpQuiet_nil ?_)
  (refine wpGrow_plain rfl ?_; go_big_quiet_step (fail); refine wpQuiet_nil ?_)
  (refine wpGrow_plain rfl ?_; go_big_quiet_step (fail); refine wpQuiet_nil ?_)
  refine wpGrow_val rfl rfl (fun _ hx hF => ?_) (fun a' ha => ?_)
  · obtain ⟨x, rfl⟩ := hx
    go_simp
    exact make_val (HA1.out _)
  simp [go_sem] at ha
  subst ha
  (refine wpGrow_plain rfl ?_; go_big_quiet_step (fail); refine wpQuiet_nil ?_)
  (refine wpGrow_plain rfl ?_; go_big_quiet_step (fail); refine wpQuiet_nil ?_)
  (refine wpGrow_plain rfl ?_; go_big_quiet_step (fail); refine wpQuiet_nil ?_)
  (refine wpGrow_plain rfl ?_; go_big_quiet_step (fail); refine wpQuiet_nil ?_)
  refine wpGrow_val rfl rfl (fun _ hx hF => ?_) (fun a' ha => ?_)
  · obtain ⟨x, rfl⟩ := hx
    go_simp
    exact make_val (HA2.out _)
  simp [go_sem] at ha
  subst ha
  (refine wpGrow_plain rfl ?_; go_big_quiet_step (fail); refine wpQuiet_nil ?_)
  (refine wpGrow_plain rfl ?_; go_big_quiet_step (fail); refine wpQuiet_nil ?_)
  (refine wpGrow_plain rfl ?_; go_big_quiet_step (fail); refine wpQuiet_nil ?_)
  (refine wpGrow_plain rfl ?_; go_big_quiet_step (fail); refine wpQuiet_nil ?_)
  refine wpGrow_val rfl rfl (fun _ hx hF => ?_) (fun a' ha => ?_)
  · obtain ⟨x, rfl⟩ := hx
    go_simp
    exact make_val (HA3.out _)
  simp [go_sem] at ha
  subst ha
  (refine wpGrow_plain rfl ?_; go_big_quiet_step (fail); refine wpQuiet_nil ?_)
  (refine wpGrow_plain rfl ?_; go_big_quiet_step (fail); refine wpQuiet_nil ?_)
  (refine wpGrow_plain rfl ?_; go_big_quiet_step (fail); refine wpQuiet_nil ?_)
  (refine wpGrow_plain rfl ?_; go_big_quiet_step (fail); refine wpQuiet_nil ?_)
  (refine wpGrow_plain rfl ?_; go_big_quiet_step (fail); refine wpQuiet_nil ?_)
  refine wpGrow_val rfl rfl (fun _ hx hF => ?_) (fun a' ha => ?_)
  · obtain ⟨x, rfl⟩ := hx
    go_simp
    exact make_val (HA4.out _)
  simp [go_sem] at ha
  subst ha
  (refine wpGrow_plain rfl ?_; go_big_quiet_step (fail); refine wpQuiet_nil ?_)
  (refine wpGrow_plain rfl ?_; go_big_quiet_step (fail); refine wpQuiet_nil ?_)
  (refine wpGrow_plain rfl ?_; go_big_quiet_step (fail); refine wpQuiet_nil ?_)
  (refine wpGrow_plain rfl ?_; go_big_quiet_step (fail); refine wpQuiet_nil ?_)
  refine wpGrow_any _ rfl rfl (fun _ hx hF => ?_) (fun v hv a' ha => ?_)
  · obtain ⟨x, rfl⟩ := hx
    go_simp
    exact calls_make rfl (HO1.out x)
  obtain ⟨p26, c26, rfl⟩ := hv
  simp [go_sem] at ha
  subst ha
  (refine wpGrow_plain rfl ?_; go_big_quiet_step (fail); refine wpQuiet_nil ?_)
  (refine wpGrow_plain rfl ?_; go_big_quiet_step (fail); refine wpQuiet_nil ?_)
  refine wpGrow_any _ rfl rfl (fun _ hx hF => ?_) (fun v hv a' ha => ?_)
  · obtain ⟨x, rfl⟩ := hx
    go_simp
    exact calls_build rfl
  obtain ⟨p29, c29, rfl⟩ := hv
  simp [go_sem] at ha
  subst ha
  refine wpGrow_val rfl rfl (fun _ hx hF => ?_) (fun a' ha => ?_)
  · obtain ⟨x, rfl⟩ := hx
    go_simp
    exact make_val (HS1.out _ _ _ _ _ (calls_fact (show (callsM 2 [exA, exC]).S _ x.w from hF 26 ⟨[], by kernel_rfl⟩)) (calls_fact (show (callsM 2 [exA, exC]).S _ x.w from hF 29 ⟨[], by kernel_rfl⟩)))
  simp [go_sem] at ha
  subst ha
  (refine wpGrow_plain rfl ?_; go_big_quiet_step (fail); refine wpQuiet_nil ?_)
  (refine wpGrow_plain rfl ?_; go_big_quiet_step (fail); refine wpQuiet_nil ?_)
  (refine wpGrow_plain rfl ?_; go_big_quiet_step (fail); refine wpQuiet_nil ?_)
  refine wpGrow_any _ rfl rfl (fun _ hx hF => ?_) (fun v hv a' ha => ?_)
  · obtain ⟨x, rfl⟩ := hx
    go_simp
    exact calls_make rfl (HO2.out x)
  obtain ⟨p34, c34, rfl⟩ := hv
  simp [go_sem] at ha
  subst ha
  (refine wpGrow_plain rfl ?_; go_big_quiet_step (fail); refine wpQuiet_nil ?_)
  (refine wpGrow_plain rfl ?_; go_big_quiet_step (fail); refine wpQuiet_nil ?_)
  refine wpGrow_any _ rfl rfl (fun _ hx hF => ?_) (fun v hv a' ha => ?_)
  · obtain ⟨x, rfl⟩ := hx
    go_simp
    exact calls_build rfl
  obtain ⟨p37, c37, rfl⟩ := hv
  simp [go_sem] at ha
  subst ha
  refine wpGrow_val rfl rfl (fun _ hx hF => ?_) (fun a' ha => ?_)
  · obtain ⟨x, rfl⟩ := hx
    go_simp
    exact make_val (HS2.out _ _ _ _ _ (calls_fact (show (callsM 2 [exB, exC]).S _ x.w from hF 34 ⟨[], by kernel_rfl⟩)) (calls_fact (show (callsM 2 [exB, exC]).S _ x.w from hF 37 ⟨[], by kernel_rfl⟩)))
  simp [go_sem] at ha
  subst ha
  (refine wpGrow_plain rfl ?_; go_big_quiet_step (fail); refine wpQuiet_nil ?_)
  (refine wpGrow_plain rfl ?_; go_big_quiet_step (fail); refine wpQuiet_nil ?_)
  (refine wpGrow_plain rfl ?_; go_big_quiet_step (fail); refine wpQuiet_nil ?_)
  refine wpGrow_any _ rfl rfl (fun _ hx hF => ?_) (fun v hv a' ha => ?_)
  · obtain ⟨x, rfl⟩ := hx
    go_simp
    exact calls_make rfl (HO3.out x)
  obtain ⟨p42, c42, rfl⟩ := hv
  simp [go_sem] at ha
  subst ha
  (refine wpGrow_plain rfl ?_; go_big_quiet_step (fail); refine wpQuiet_nil ?_)
  (refine wpGrow_plain rfl ?_; go_big_quiet_step (fail); refine wpQuiet_nil ?_)
  refine wpGrow_any _ rfl rfl (fun _ hx hF => ?_) (fun v hv a' ha => ?_)
  · obtain ⟨x, rfl⟩ := hx
    go_simp
    exact calls_build rfl
  obtain ⟨p45, c45, rfl⟩ := hv
  simp [go_sem] at ha
  subst ha
  refine wpGrow_val rfl rfl (fun _ hx hF => ?_) (fun a' ha => ?_)
  · obtain ⟨x, rfl⟩ := hx
    go_simp
    exact make_val (HS3.out _ _ _ _ _ (calls_fact (show (callsM 2 [exA, exB]).S _ x.w from hF 42 ⟨[], by kernel_rfl⟩)) (calls_fact (show (callsM 2 [exA, exB]).S _ x.w from hF 45 ⟨[], by kernel_rfl⟩)))
  simp [go_sem] at ha
  subst ha
  (refine wpGrow_plain rfl ?_; go_big_quiet_step (fail); refine wpQuiet_nil ?_)
  (refine wpGrow_plain rfl ?_; go_big_quiet_step (fail); refine wpQuiet_nil ?_)
  (refine wpGrow_plain rfl ?_; go_big_quiet_step (fail); refine wpQuiet_nil ?_)
  (refine wpGrow_plain rfl ?_; go_big_quiet_step (fail); refine wpQuiet_nil ?_)
  refine wpGrow_any _ rfl rfl (fun _ hx hF => ?_) (fun v hv a' ha => ?_)
  · obtain ⟨x, rfl⟩ := hx
    go_simp
    exact calls_build rfl
  obtain ⟨p51, c51, rfl⟩ := hv
  simp [go_sem] at ha
  subst ha
  refine wpGrow_val rfl rfl (fun _ hx hF => ?_) (fun a' ha => ?_)
  · obtain ⟨x, rfl⟩ := hx
    go_simp
    exact make_val (HR2.out _ _ _ (calls_fact (show (callsM 2 [exC, exA]).S _ x.w from hF 51 ⟨[], by kernel_rfl⟩)))
  simp [go_sem] at ha
  subst ha
  (refine wpGrow_plain rfl ?_; go_big_quiet_step (fail); refine wpQuiet_nil ?_)
  (refine wpGrow_plain rfl ?_; go_big_quiet_step (fail); refine wpQuiet_nil ?_)
  (refine wpGrow_plain rfl ?_; go_big_quiet_step (fail); refine wpQuiet_nil ?_)
  refine wpGrow_nil ?_
  rintro _ ⟨y, rfl⟩ hF
  clear hF
  go_wp2_with fail
  go_ret
  exact ⟨rfl, HB.out.trans (y.bel.mono HB.out.size)⟩
end Go.Proofs.Ytedgliaablokcaa
