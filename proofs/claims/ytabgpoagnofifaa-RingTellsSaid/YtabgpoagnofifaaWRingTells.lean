/-
  RING: the law RingTells.
-/
import Derived.Test.YtabgpoagnofifaaRows
import Derived.ProofKit
import Derived.Test.YtabgpoagnofifaaRingN
namespace Go.Proofs.Ytabgpoagnofifaa
open Go.ChangeShapes Go.WideShapes Go.ChangeAt Go.RowKit

def pairsM (b1 z1 b2 z2 top : Int) (n : Nat) : Maker := ⟨fun v => ∃ p cap, v = .slice p n cap, fun v w => ∃ p cap, v = .slice p n cap ∧ Cells w p (pairsP b1 z1 b2 z2 top n), ⟨_, none, 0, rfl⟩,
  fun _ _ _ ⟨p, c, h1, h2⟩ hb => ⟨p, c, h1, h2.later hb⟩⟩

theorem pairs_make {P : Program} {w : World} {f : FuncId} {args : Array Value} {b1 z1 b2 z2 top : Int} {n : Nat} (h : Calls P f args w (MovesAny w b1 z1 b2 z2 top n)) : makeUpon P (pairsM b1 z1 b2 z2 top n) w (.ok (.enter f args) w) :=
  make_call (h.mono fun _ _ ⟨p, c, he, hc, hb⟩ => ⟨_, he, ⟨p, c, rfl⟩, ⟨p, c, rfl, hc⟩, hb⟩)

theorem pairs_fact {b1 z1 b2 z2 top : Int} {n c : Nat} {p : Option Addr} {w : World} (h : (pairsM b1 z1 b2 z2 top n).S (.slice p n c) w) : Cells w p (pairsP b1 z1 b2 z2 top n) := by
  obtain ⟨p', c', e, hc⟩ := h
  injection e with e
  rw [e]; exact hc

theorem moves_le (b1 z1 b2 z2 top bottom : Int) (h : z1 ≤ 131072) : movesN b1 z1 b2 z2 top bottom ≤ 1000000 := by
  unfold movesN
  split
  · rename_i hok
    unfold okP at hok
    rw [Bool.and_eq_true] at hok
    have := rfits_no z1 b1 top bottom hok.1
    omega
  · omega

set_option maxRecDepth 100000 in
set_option maxHeartbeats 8000000 in
theorem walkRingTells (a b seat r top bottom : Int) (w : World) (ha : 0 ≤ a ∧ a ≤ 255) (hb : 0 ≤ b ∧ b ≤ 255) (_hseat : -9223372036854775808 ≤ seat ∧ seat ≤ 9223372036854775807) (_hr : -9223372036854775808 ≤ r ∧ r ≤ 9223372036854775807)
    (ht : -9223372036854775808 ≤ top ∧ top ≤ 9223372036854775807) (hbo : -9223372036854775808 ≤ bottom ∧ bottom ≤ 9223372036854775807) :
    Calls Try.prog 3 #[.int .u8 a, .int .u8 b, .int .i64 seat, .int .i64 r, .int .i64 top, .int .i64 bottom] w fun e w' => e = .returned (.bool true) ∧ Below w.heap.size w w' := by
  obtain ⟨m, hm⟩ : ∃ m, Int.tmod a 3 = m := ⟨_, rfl⟩
  obtain ⟨k, hk⟩ : ∃ m, Int.tmod b 64 = m := ⟨_, rfl⟩
  have h1 : 0 ≤ m ∧ m ≤ 2 := by rw [Int.tmod_eq_emod_of_nonneg ha.1] at hm; omega
  have h2 : 0 ≤ k ∧ k ≤ 63 := by rw [Int.tmod_eq_emod_of_nonneg hb.1] at hk; omega
  obtain ⟨X, hX⟩ : ∃ X, X = lay2 (1 + m) (1 + k) := ⟨_, rfl⟩
  have hWh := fun w => where_any a b m k hm hk h1 h2 w
  rw [← hX] at hWh
  have x25 : X.size = 25 := by rw [hX]; rfl
  have x0 : X[0]? = some (.int .i64 (1 + m)) := by rw [hX]; rfl
  have x4 : X[4]? = some (.int .i64 (1 + k)) := by rw [hX]; rfl
  have x17 : X[17]? = some (.int .i64 (4 + 8 * (1 + m))) := by rw [hX]; rfl
  have hOn : Hid (X.all (·.oneCell') = true) := Lib.hid (by rw [hX]; simp [lay2, layC, Value.oneCell'])
  have hi1 : Hid ((Try.prog.info? 26).map (·.size) = some X.size) := Lib.hid (by rw [x25]; exact lay25)
  have hi2 : Hid ((Try.prog.info? 26).map (·.size) = some X.toList.length) := Lib.hid (by rw [Array.length_toList, x25]; exact lay25)
  have HPA := Lib.hid fun w => place_lay X (1 + m) (1 + k) (4 + 8 * (1 + m)) seat r top x25 x0 x4 x17 (by omega) (by omega) w
  have HPR := Lib.hid fun w => rplace_lay X (1 + m) (1 + k) (4 + 8 * (1 + m)) seat r top x25 x0 x4 x17 (by omega) (by omega) (by omega) w
  have HMA := Lib.hid fun w => moves_any X (1 + m) (1 + k) (4 + 8 * (1 + m)) seat r _ top bottom x25 x0 x4 x17 (by omega) (by omega) rfl ht hbo w
  have HMR := Lib.hid fun w => rmoves_any X (1 + m) (1 + k) (4 + 8 * (1 + m)) seat r _ top bottom x25 x0 x4 x17 (by omega) (by omega) (by omega) rfl ht hbo w
  have HSA := Lib.hid fun w => size_any r w
  have HSR := Lib.hid fun w => rsize_any r w
  have hle := moves_le (ringP (1 + m) (1 + k) (4 + 8 * (1 + m)) seat r) (sizeP r) (ringP (1 + m) (1 + k) (4 + 8 * (1 + m)) seat (wrap64 (r + 1))) (sizeP (wrap64 (r + 1))) top bottom (size_le r).2
  obtain ⟨P, hP⟩ : ∃ P, placeP (ringP (1 + m) (1 + k) (4 + 8 * (1 + m)) seat r) (sizeP r) top = P := ⟨_, rfl⟩
  obtain ⟨N, hN⟩ : ∃ N, movesN (ringP (1 + m) (1 + k) (4 + 8 * (1 + m)) seat r) (sizeP r) (ringP (1 + m) (1 + k) (4 + 8 * (1 + m)) seat (wrap64 (r + 1))) (sizeP (wrap64 (r + 1))) top bottom = N := ⟨_, rfl⟩
  rw [hP] at HPA HPR
  rw [hN] at HMA HMR hle
  obtain ⟨b1, hb1⟩ : ∃ P, ringP (1 + m) (1 + k) (4 + 8 * (1 + m)) seat r = P := ⟨_, rfl⟩
  obtain ⟨b2, hb2⟩ : ∃ P, ringP (1 + m) (1 + k) (4 + 8 * (1 + m)) seat (wrap64 (r + 1)) = P := ⟨_, rfl⟩
  obtain ⟨z1, hz1⟩ : ∃ P, sizeP r = P := ⟨_, rfl⟩
  obtain ⟨z2, hz2⟩ : ∃ P, sizeP (wrap64 (r + 1)) = P := ⟨_, rfl⟩
  rw [hb1, hb2, hz1, hz2] at HMA HMR
  rw [hz1] at HSA HSR
  obtain ⟨d, hd⟩ : ∃ d, IntKind.i64.wrap (bottom - top) = d := ⟨_, rfl⟩
  have HWh := Lib.hid hWh
  have HX25 := Lib.hid x25
  clear hX hWh x25 x0 x4 x17 hP hN hb1 hb2 hz1 hz2
  go_enter Try.func3, Try.ntmps3
  go_wp2_with fail
  refine (awake_any w).mono ?_
  rintro e w0 ⟨rfl, hb0⟩
  go_wp2_with fail
  refine (HWh.out w0).mono ?_
  rintro e w1 ⟨rfl, hb01⟩
  have hb1 := below_trans hb0 hb01
  obtain ⟨W, hW⟩ : ∃ W, W = (w1.alloc (Obj.cells #[.int .i64 0, .int .i64 0, .int .i64 0, .int .i64 0, .int .i64 0, .int .i64 0, .int .i64 0, .int .i64 0, .int .i64 0, .int .i64 0, .int .i64 0, .int .i64 0, .int .i64 0, .int .i64 0, .int .i64 0, .int .i64 0, .int .i64 0, .int .i64 0, .int .i64 0, .int .i64 0, .int .i64 0, .int .i64 0, .int .i64 0, .int .i64 0, .int .i64 0] 26)).setCells w1.heap.size 0 X.toList := ⟨_, rfl⟩
  have HN := Blk.made w1 26 #[.int .i64 0, .int .i64 0, .int .i64 0, .int .i64 0, .int .i64 0, .int .i64 0, .int .i64 0, .int .i64 0, .int .i64 0, .int .i64 0, .int .i64 0, .int .i64 0, .int .i64 0, .int .i64 0, .int .i64 0, .int .i64 0, .int .i64 0, .int .i64 0, .int .i64 0, .int .i64 0, .int .i64 0, .int .i64 0, .int .i64 0, .int .i64 0, .int .i64 0]
  have HA : Blk W w1.heap.size 26 X := by rw [hW]; exact HN.put_whole X.toList (by rw [Array.length_toList, HX25.out]; rfl)
  have hbW : Below w.heap.size w W := by rw [hW]; exact (hb1.alloc hb1.size _).trans (Lib.below_setCells_w hb1.size _ _ _)
  have hth1 : Hid ((w1.alloc (Obj.cells #[.int .i64 0, .int .i64 0, .int .i64 0, .int .i64 0, .int .i64 0, .int .i64 0, .int .i64 0, .int .i64 0, .int .i64 0, .int .i64 0, .int .i64 0, .int .i64 0, .int .i64 0, .int .i64 0, .int .i64 0, .int .i64 0, .int .i64 0, .int .i64 0, .int .i64 0, .int .i64 0, .int .i64 0, .int .i64 0, .int .i64 0, .int .i64 0, .int .i64 0] 26)).there w1.heap.size 0 X.size) := Lib.hid fun j hj => by
    rw [Nat.zero_add]
    obtain ⟨u, hu⟩ := HN.has j (by rw [HX25.out] at hj; exact hj)
    exact ⟨by rw [hu]; rfl, HN.free j⟩
  have hra : Hid (∀ w', (∃ x : After W, w' = x.w) → World.rangeAt w' w1.heap.size 0 X.toList) := Lib.hid fun wx ⟨x, hx⟩ j v hv => by
    subst hx
    rw [Nat.zero_add, (HA.later x.bel).cell]; simpa using hv
  have HW := Lib.hid hW
  have HBW := Lib.hid hbW
  clear hW hbW HN HA hb0 hb01 hb1
  go_wp2_with (first
    | (with_reducible (show wpList _ _ _ ({ dst := none, op := Op.store 26 _ _, type := _, pos := _, after := _, guard := none } :: _) _ _); refine wpList_store_mid rfl 26 _ _ rfl w1.heap.size 0 X rfl rfl hth1.out hi1.out hOn.out ?_; rw [← HW.out]))
  simp only [Act.put]
  rcases (show (decide (100 < d) = true ∧ decide (0 ≤ top) = true) ∨ (decide (100 < d) = true ∧ decide (0 ≤ top) = false) ∨ decide (100 < d) = false by simp; omega) with ⟨d1, d2⟩ | ⟨d1, d2⟩ | d1
  all_goals
    refine wp_region_grow [(3, Maker.val (.int .i64 z1)), (5, Maker.val (.int .i64 z1)), (13, Maker.val (.int .i64 P)), (18, Maker.val (.int .i64 P)), (36, pairsM b1 z1 b2 z2 top N), (42, pairsM b1 z1 b2 z2 top N), (43, Maker.val (.bool true))] (by kernel_rfl) (by kernel_rfl) (by kernel_rfl) ?_
    repeat (first
      | (refine wpGrow_plain rfl ?_; first
        | (with_reducible (show wpQuiet _ _ _ _ ({ dst := _, op := Op.load 26 _, type := _, pos := _, after := _, guard := _ } :: _) _); go_big_quiet_want; refine quiet_load_K 26 _ rfl w1.heap.size 0 rfl X.toList _ hra.out layFields rfl hi2.out ?_; go_simp; go_big_quiet_on; refine wpQuiet_nil ?_)
        | (go_big_quiet_step (fail); refine wpQuiet_nil ?_))
      | (refine wpGrow_pass _ rfl rfl (fun a' ha => ?_)
         simp [go_sem] at ha
         subst ha)
      | (refine wpGrow_val rfl rfl (fun _ hx hF => ?_) (fun a' ha => ?_)
         · obtain ⟨x, rfl⟩ := hx
           go_simp
           first
             | (with_reducible exact make_same (HSA.out _))
             | (with_reducible exact make_same (HSR.out _))
             | (with_reducible exact make_val (HPA.out _))
             | (with_reducible exact make_val (HPR.out _))
             | (have q1 := pairs_fact (show (pairsM b1 z1 b2 z2 top N).S _ x.w from hF 36 ⟨[], by kernel_rfl⟩)
                have q2 := pairs_fact (show (pairsM b1 z1 b2 z2 top N).S _ x.w from hF 42 ⟨[], by kernel_rfl⟩)
                exact make_val (pairs_any _ _ _ _ _ _ _ _ _ _ _ q1 q2 hle))
         simp [go_sem] at ha
         subst ha)
      | (refine wpGrow_any _ rfl rfl (fun _ hx hF => ?_) (fun v hv a' ha => ?_)
         · obtain ⟨x, rfl⟩ := hx
           go_simp
           first
             | (with_reducible exact pairs_make (HMA.out _))
             | (with_reducible exact pairs_make (HMR.out _))
         obtain ⟨p, cap, rfl⟩ := hv
         simp [go_sem] at ha
         subst ha))
    refine wpGrow_nil ?_
    rintro _ ⟨y, rfl⟩ hF
    clear hF
    go_wp2_with fail
    go_ret
    exact ⟨rfl, HBW.out.trans (y.bel.mono HBW.out.size)⟩
end Go.Proofs.Ytabgpoagnofifaa
