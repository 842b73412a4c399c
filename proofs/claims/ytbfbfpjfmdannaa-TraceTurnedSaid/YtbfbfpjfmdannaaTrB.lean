/-
  TRACE: row.event, of all rows.
-/
import Derived.Test.YtbfbfpjfmdannaaTrA
import Derived.Test.YtbfbfpjfmdannaaTail
import Derived.Deep.QuietTactic
import Derived.BigQuiet
import Derived.Laws.ResultCell
import Derived.Test.YtbfbfpjfmdannaaStep2
import Derived.Test.YtbfbfpjfmdannaaFill
namespace Go.Proofs.Ytbfbfpjfmdannaa
open Go.ChangeShapes Go.WideShapes Go.ChangeAt Go.RowKit

theorem quiet_load_K {P : Program} {C : World → Prop} {K : Act → Prop} {op : Oper} {a : Act} (ty : TypeId) (x : Operand) (ho : op.op = .load ty x)
    (b o : Nat) (hx : a.eval x = .pointer (some ⟨b, o, none⟩)) (cs : List Value) (d : TypeDesc) (hc : ∀ w, C w → w.rangeAt b o cs)
    (hu : P.underlying ty = some d) (hd : d.isRow = true) (hi : (P.info? ty).map (·.size) = some cs.length)
    (h : K (a.put op.dst (.agg cs.toArray))) : op.quiet P a C K := by
  refine ⟨.agg cs.toArray, fun w hcw => ?_, h⟩
  unfold Oper.quietAt execOp
  simp only [ho, hx, Instr.loadAt, Instr.sureAddr, Sem.run_bind, Sem.run_pure, Result.andThen_ok, run_loadVar_mid w b o ty cs d (hc w hcw) hu hd hi]
  exact ⟨rfl, rfl⟩

theorem results_cell_mid {P : Program} {fn : Func} {p u : Tmp} {ty : TypeId} {d : TypeDesc} (h : fn.results = #[.cell p ty, .tmp u]) (tmps : Array Value) (w : World) (b : Nat) (q : List Value) (v : Value)
    (hp : tmps.getD p undef = .pointer (some ⟨b, 0, none⟩)) (hv : tmps.getD u undef = v) (hc : w.rangeAt b 0 q) (hu : P.underlying ty = some d) (hd : d.isRow = true) (hi : (P.info? ty).map (·.size) = some q.length) :
    (results fn tmps).run P w = .ok (.tuple #[.agg q.toArray, v]) w := by
  rw [results_cell_tmp h, hp, hv]
  simp [asAddr, run_loadVar_mid w b 0 ty q d hc hu hd hi]

theorem rowGuard : Try.prog.eqGuardType Try.prog.depth 59 = false := by kernel_rfl
theorem intU : Try.prog.underlying 3 = some (.int .i64) := by kernel_rfl
theorem row_eq (a b c d e f g h k : Int) (w : World) : (Op.equalIn 10000 59 (.agg #[.int .i64 a, .int .i64 b, .int .i64 c, .int .i64 d, .int .i64 e, .int .i64 f, .int .i64 g, .int .i64 h]) (.agg #[.int .i64 a, .int .i64 b, .int .i64 c, .int .i64 d, .int .i64 e, .int .i64 f, .int .i64 g, .int .i64 k])).run Try.prog w = .ok (h == k) w := by
  obtain ⟨i0, hi0, hz0, hz1, hz2⟩ := info_parts int_info
  have hce : Try.prog.cellsOf 3 = 1 := by kernel_rfl
  rw [run_equalIn_array w 9999 _ _ rowU hi0, hce]
  have p0 : ∀ (x0 x1 x2 x3 x4 x5 x6 x7 : Int) (wx : World), (part 3 #[.int .i64 x0, .int .i64 x1, .int .i64 x2, .int .i64 x3, .int .i64 x4, .int .i64 x5, .int .i64 x6, .int .i64 x7] 0).run Try.prog wx = .ok (.int .i64 x0) wx := fun _ _ _ _ _ _ _ _ wx => by simp [part, isAgg, run_underlying intU]
  have p1 : ∀ (x0 x1 x2 x3 x4 x5 x6 x7 : Int) (wx : World), (part 3 #[.int .i64 x0, .int .i64 x1, .int .i64 x2, .int .i64 x3, .int .i64 x4, .int .i64 x5, .int .i64 x6, .int .i64 x7] 1).run Try.prog wx = .ok (.int .i64 x1) wx := fun _ _ _ _ _ _ _ _ wx => by simp [part, isAgg, run_underlying intU]
  have p2 : ∀ (x0 x1 x2 x3 x4 x5 x6 x7 : Int) (wx : World), (part 3 #[.int .i64 x0, .int .i64 x1, .int .i64 x2, .int .i64 x3, .int .i64 x4, .int .i64 x5, .int .i64 x6, .int .i64 x7] 2).run Try.prog wx = .ok (.int .i64 x2) wx := fun _ _ _ _ _ _ _ _ wx => by simp [part, isAgg, run_underlying intU]
  have p3 : ∀ (x0 x1 x2 x3 x4 x5 x6 x7 : Int) (wx : World), (part 3 #[.int .i64 x0, .int .i64 x1, .int .i64 x2, .int .i64 x3, .int .i64 x4, .int .i64 x5, .int .i64 x6, .int .i64 x7] 3).run Try.prog wx = .ok (.int .i64 x3) wx := fun _ _ _ _ _ _ _ _ wx => by simp [part, isAgg, run_underlying intU]
  have p4 : ∀ (x0 x1 x2 x3 x4 x5 x6 x7 : Int) (wx : World), (part 3 #[.int .i64 x0, .int .i64 x1, .int .i64 x2, .int .i64 x3, .int .i64 x4, .int .i64 x5, .int .i64 x6, .int .i64 x7] 4).run Try.prog wx = .ok (.int .i64 x4) wx := fun _ _ _ _ _ _ _ _ wx => by simp [part, isAgg, run_underlying intU]
  have p5 : ∀ (x0 x1 x2 x3 x4 x5 x6 x7 : Int) (wx : World), (part 3 #[.int .i64 x0, .int .i64 x1, .int .i64 x2, .int .i64 x3, .int .i64 x4, .int .i64 x5, .int .i64 x6, .int .i64 x7] 5).run Try.prog wx = .ok (.int .i64 x5) wx := fun _ _ _ _ _ _ _ _ wx => by simp [part, isAgg, run_underlying intU]
  have p6 : ∀ (x0 x1 x2 x3 x4 x5 x6 x7 : Int) (wx : World), (part 3 #[.int .i64 x0, .int .i64 x1, .int .i64 x2, .int .i64 x3, .int .i64 x4, .int .i64 x5, .int .i64 x6, .int .i64 x7] 6).run Try.prog wx = .ok (.int .i64 x6) wx := fun _ _ _ _ _ _ _ _ wx => by simp [part, isAgg, run_underlying intU]
  have p7 : ∀ (x0 x1 x2 x3 x4 x5 x6 x7 : Int) (wx : World), (part 3 #[.int .i64 x0, .int .i64 x1, .int .i64 x2, .int .i64 x3, .int .i64 x4, .int .i64 x5, .int .i64 x6, .int .i64 x7] 7).run Try.prog wx = .ok (.int .i64 x7) wx := fun _ _ _ _ _ _ _ _ wx => by simp [part, isAgg, run_underlying intU]
  have pe : ∀ (x y : Int) (wx : World), (Op.equalIn 9999 3 (.int .i64 x) (.int .i64 y)).run Try.prog wx = .ok (x == y) wx := fun x y wx => run_equalIn_int wx 9998 3 .i64 .i64 x y intU
  show (Op.eqItems 9999 3 1 _ _ [0, 1, 2, 3, 4, 5, 6, 7]).run Try.prog w = _
  cases hhk : (h == k) <;> simp [Op.eqItems, p0, p1, p2, p3, p4, p5, p6, p7, pe, hhk]

def evOfRow (a b c d e f g h : Int) : EvV := ⟨a, b, c, d, e, f, g, decide (h = 1)⟩

set_option maxRecDepth 100000 in
set_option maxHeartbeats 4000000 in
theorem event_any (a b c d e f g h : Int) (R : Bool) (hR : decide (h = 0 ∨ h = 1) = R) (w : World) :
    Calls Try.prog 27 #[.agg #[.int .i64 a, .int .i64 b, .int .i64 c, .int .i64 d, .int .i64 e, .int .i64 f, .int .i64 g, .int .i64 h]] w
      fun r w' => r = .returned (.tuple #[(evOfRow a b c d e f g h).agg, .bool R]) ∧ Below w.heap.size w w' := by
  have hgd := rowGuard
  obtain ⟨O, hO⟩ : ∃ O, decide (h = 1) = O := ⟨_, rfl⟩
  have hO2 : (h == 1) = O := by rw [← hO]; by_cases h1 : h = 1 <;> simp [h1]
  have hq : ((if O = true then (1 : Int) else 0) == h) = R := by
    rw [← hR, ← hO]
    by_cases h1 : h = 1
    · simp [h1]
    · by_cases h0 : h = 0
      · simp [h0]
      · simp [h1, h0]; omega
  have heq : ∀ wx, (Op.equalIn 10000 59 (.agg #[.int .i64 a, .int .i64 b, .int .i64 c, .int .i64 d, .int .i64 e, .int .i64 f, .int .i64 g, .int .i64 (if O = true then (1 : Int) else 0)]) (.agg #[.int .i64 a, .int .i64 b, .int .i64 c, .int .i64 d, .int .i64 e, .int .i64 f, .int .i64 g, .int .i64 h])).run Try.prog wx = .ok R wx := fun wx => by rw [row_eq, hq]
  clear hq
  have hcall : ∀ wx, Calls Try.prog 24 #[.agg #[.int .i64 a, .int .i64 b, .int .i64 c, .int .i64 d, .int .i64 e, .int .i64 f, .int .i64 g, .bool O]] wx fun r w' => r = .returned (.agg #[.int .i64 a, .int .i64 b, .int .i64 c, .int .i64 d, .int .i64 e, .int .i64 f, .int .i64 g, .int .i64 (if O = true then (1 : Int) else 0)]) ∧ Below wx.heap.size wx w' := fun wx => rowOf_any ⟨a, b, c, d, e, f, g, O⟩ wx
  obtain ⟨Z, hZ⟩ : ∃ Z : Int, (if O = true then (1 : Int) else 0) = Z := ⟨_, rfl⟩
  simp only [hZ] at heq hcall
  clear hZ
  have HCALL := Lib.hid hcall
  unfold evOfRow EvV.agg
  rw [hO]
  clear hR hO hcall
  obtain ⟨V, hV⟩ : ∃ V, V = ((w.alloc (Obj.cells #[.int .i64 a, .int .i64 b, .int .i64 c, .int .i64 d, .int .i64 e, .int .i64 f, .int .i64 g, .int .i64 h] 59)).alloc (Obj.cells #[.int .i64 0, .int .i64 0, .int .i64 0, .int .i64 0, .int .i64 0, .int .i64 0, .int .i64 0, .bool false] 48)).alloc (Obj.cells #[.int .i64 a, .int .i64 b, .int .i64 c, .int .i64 d, .int .i64 e, .int .i64 f, .int .i64 g, .bool O] 48) := ⟨_, rfl⟩
  have KR : Blk V w.heap.size 59 #[.int .i64 a, .int .i64 b, .int .i64 c, .int .i64 d, .int .i64 e, .int .i64 f, .int .i64 g, .int .i64 h] := by
    rw [hV]; exact ((Blk.made _ _ _).alloc _).alloc _
  have KC : Blk V (w.heap.size + 1) 48 #[.int .i64 0, .int .i64 0, .int .i64 0, .int .i64 0, .int .i64 0, .int .i64 0, .int .i64 0, .bool false] := by
    rw [hV]
    have := (Blk.made (w.alloc (Obj.cells #[.int .i64 a, .int .i64 b, .int .i64 c, .int .i64 d, .int .i64 e, .int .i64 f, .int .i64 g, .int .i64 h] 59)) 48 #[.int .i64 0, .int .i64 0, .int .i64 0, .int .i64 0, .int .i64 0, .int .i64 0, .int .i64 0, .bool false]).alloc (Obj.cells #[.int .i64 a, .int .i64 b, .int .i64 c, .int .i64 d, .int .i64 e, .int .i64 f, .int .i64 g, .bool O] 48)
    simpa [go_sem] using this
  have KE : Blk V (w.heap.size + 1 + 1) 48 #[.int .i64 a, .int .i64 b, .int .i64 c, .int .i64 d, .int .i64 e, .int .i64 f, .int .i64 g, .bool O] := by
    rw [hV]
    have := Blk.made ((w.alloc (Obj.cells #[.int .i64 a, .int .i64 b, .int .i64 c, .int .i64 d, .int .i64 e, .int .i64 f, .int .i64 g, .int .i64 h] 59)).alloc (Obj.cells #[.int .i64 0, .int .i64 0, .int .i64 0, .int .i64 0, .int .i64 0, .int .i64 0, .int .i64 0, .bool false] 48)) 48 #[.int .i64 a, .int .i64 b, .int .i64 c, .int .i64 d, .int .i64 e, .int .i64 f, .int .i64 g, .bool O]
    simpa [go_sem] using this
  have HB : Hid (Below w.heap.size w V) := Lib.hid (by rw [hV]; exact bel_alloc (bel_alloc (bel_alloc (Below.refl _ _) _) _) _)
  have hrE : Hid (∀ w', (∃ x : After V, w' = x.w) → w'.rangeAt (w.heap.size + 1 + 1) 0 [.int .i64 a, .int .i64 b, .int .i64 c, .int .i64 d, .int .i64 e, .int .i64 f, .int .i64 g, .bool O]) := Lib.hid (by
    rintro _ ⟨x, rfl⟩ j v hj
    rw [Nat.zero_add, x.cell KE.lt, KE.cell]; simpa using hj)
  have hrR : Hid (∀ w', (∃ x : After V, w' = x.w) → w'.rangeAt w.heap.size 0 [.int .i64 a, .int .i64 b, .int .i64 c, .int .i64 d, .int .i64 e, .int .i64 f, .int .i64 g, .int .i64 h]) := Lib.hid (by
    rintro _ ⟨x, rfl⟩ j v hj
    rw [Nat.zero_add, x.cell KR.lt, KR.cell]; simpa using hj)
  have HKC := Lib.hid KC
  have HV := Lib.hid hV
  clear KR KC KE hV
  go_enter Try.func27, Try.ntmps27
  go_wp2_with fail
  rw [← HV.out]
  have hS : Hid (∀ wx, Below V.heap.size V wx → wx.rangeAt (w.heap.size + 1 + 1) 0 [.int .i64 a, .int .i64 b, .int .i64 c, .int .i64 d, .int .i64 e, .int .i64 f, .int .i64 g, .bool O] ∧ wx.rangeAt w.heap.size 0 [.int .i64 a, .int .i64 b, .int .i64 c, .int .i64 d, .int .i64 e, .int .i64 f, .int .i64 g, .int .i64 h]) := Lib.hid (fun wx hb => ⟨hrE.out _ ⟨⟨wx, hb⟩, rfl⟩, hrR.out _ ⟨⟨wx, hb⟩, rfl⟩⟩)
  clear hrE hrR
  refine wp_region_noPanic ?_
  refine wp_region_held (S := fun wx => wx.rangeAt (w.heap.size + 1 + 1) 0 [.int .i64 a, .int .i64 b, .int .i64 c, .int .i64 d, .int .i64 e, .int .i64 f, .int .i64 g, .bool O] ∧ wx.rangeAt w.heap.size 0 [.int .i64 a, .int .i64 b, .int .i64 c, .int .i64 d, .int .i64 e, .int .i64 f, .int .i64 g, .int .i64 h]) (by kernel_rfl) ?_
  change wpAnyH _ _ _ _ _ _ _ _ (World.drew _)
  refine takeH_n (i := 0) (v := .agg ([.int .i64 a, .int .i64 b, .int .i64 c, .int .i64 d, .int .i64 e, .int .i64 f, .int .i64 g, .bool O] : List Value).toArray) rfl (by kernel_rfl) (by kernel_rfl) (by kernel_rfl) (fun _ _ _ h => h) (yieldsIf_load_mid (by simp [Region.wanted]) 48 _ rfl (w.heap.size + 1 + 1) 0 rfl _ _ (fun _ h => h.1) evFields rfl evI) (hS.out _ (Below.refl _ _).drew) (fun a' ha => ?_)
  simp [go_sem] at ha
  subst ha
  refine takeH_n (i := 1) (v := .agg ([.int .i64 a, .int .i64 b, .int .i64 c, .int .i64 d, .int .i64 e, .int .i64 f, .int .i64 g, .bool O] : List Value).toArray) rfl (by kernel_rfl) (by kernel_rfl) (by kernel_rfl) (fun _ _ _ h => h) (yieldsIf_load_mid (by simp [Region.wanted]) 48 _ rfl (w.heap.size + 1 + 1) 0 rfl _ _ (fun _ h => h.1) evFields rfl evI) (hS.out _ (Below.refl _ _).drew) (fun a' ha => ?_)
  simp [go_sem] at ha
  subst ha
  refine takeH_n (i := 3) (v := .agg ([.int .i64 a, .int .i64 b, .int .i64 c, .int .i64 d, .int .i64 e, .int .i64 f, .int .i64 g, .int .i64 h] : List Value).toArray) rfl (by kernel_rfl) (by kernel_rfl) (by kernel_rfl) (fun _ _ _ h => h) (yieldsIf_load_mid (by simp [Region.wanted]) 59 _ rfl w.heap.size 0 rfl _ _ (fun _ h => h.2) rowU rfl rowI) (hS.out _ (Below.refl _ _).drew) (fun a' ha => ?_)
  simp [go_sem] at ha
  subst ha
  refine anyH_one (i := 2) rfl (by kernel_rfl) (fun K hK => ?_)
  go_simp
  refine (HCALL.out _).mono ?_
  rintro r w3 ⟨rfl, hb3⟩
  have hb4 : Below V.heap.size V w3 := (Below.refl _ _).drew.trans hb3
  refine hK.out _ _ (hS.out _ hb4) ?_
  clear hK K hb3
  refine takeH_n (i := 4) (v := .bool R) rfl (by kernel_rfl) (by kernel_rfl) (by kernel_rfl) (fun _ _ _ h => h) (Or.inl ⟨by rfl, ?hy4⟩) (hS.out _ hb4) (fun a' ha => ?rest4)
  case hy4 => (intro w hS; go_simp; try with_reducible rfl)
  simp [go_sem] at ha
  subst ha
  have HSA := Lib.hid (hS.out _ hb4)
  have KC4 := HKC.out.later hb4
  have hth : w3.there (w.heap.size + 1) 0 8 := fun j hj => by
    refine ⟨?_, KC4.free _⟩
    rw [KC4.cell]
    have : j = 0 ∨ j = 1 ∨ j = 2 ∨ j = 3 ∨ j = 4 ∨ j = 5 ∨ j = 6 ∨ j = 7 := by omega
    rcases this with rfl | rfl | rfl | rfl | rfl | rfl | rfl | rfl <;> rfl
  have HTH := Lib.hid hth
  have HBW := Lib.hid (HB.out.trans (hb4.mono HB.out.size))
  clear KC4 hth hb4 hS HKC HCALL HV
  refine anyH_one (i := 5) rfl (by kernel_rfl) (fun K hK => ?_)
  rw [if_pos (by simp [Region.wanted])]
  refine wp_store_mid 48 _ _ rfl (w.heap.size + 1) 0 ([.int .i64 a, .int .i64 b, .int .i64 c, .int .i64 d, .int .i64 e, .int .i64 f, .int .i64 g, .bool O] : List Value).toArray rfl rfl HTH.out evI (by simp [Value.oneCell']) ?_
  refine hK.out _ _ ⟨World.rangeAt_setCells_apart HSA.out.1 _ _ _ (.inl (by omega)), World.rangeAt_setCells_apart HSA.out.2 _ _ _ (.inl (by omega))⟩ ?_
  clear hK K
  refine takeH_n (i := 6) (v := .bool R) rfl (by kernel_rfl) (by kernel_rfl) (by kernel_rfl) (fun _ _ _ h => h) (Or.inl ⟨by rfl, ?hy6⟩) ⟨World.rangeAt_setCells_apart HSA.out.1 _ _ _ (.inl (by omega)), World.rangeAt_setCells_apart HSA.out.2 _ _ _ (.inl (by omega))⟩ (fun a' ha => ?rest6)
  case hy6 => (intro w hS; go_simp; try with_reducible rfl)
  simp [go_sem] at ha
  subst ha
  refine wpAnyH_done (by kernel_rfl) ?_ _
  refine NoPanic.normal ?_
  go_wp2_with fail
  exact bodyPost_ret (results_cell_mid Try.results27 _ _ (w.heap.size + 1) [.int .i64 a, .int .i64 b, .int .i64 c, .int .i64 d, .int .i64 e, .int .i64 f, .int .i64 g, .bool O] _ rfl rfl (World.rangeAt_setCells_same _ _ _ _ HTH.out) evFields rfl evI) rfl ⟨rfl, below_setCells (Nat.le_succ _) _ _ HBW.out⟩
end Go.Proofs.Ytbfbfpjfmdannaa
