/-
  SP: a list into which strands are put, by labels.
-/
import Derived.Test.YtjpimaiogdckpaaOmH
namespace Go.Proofs.Ytjpimaiogdckpaa
open Go.ChangeShapes Go.WideShapes Go.ChangeAt Go.RowKit Go.Sort

/-- block b is a line: its order has these labels; it stands in no plain row -/
structure Line (w : World) (b : Nat) (l : List Int) : Prop where
  at_ : ∃ p n c, n = l.length ∧ Blk w b 57 #[.slice p n c, .slice none 0 0] ∧ Nums w p c l
  rt : Rt l

theorem Line.later {w w1 : World} {b : Nat} {l : List Int} (h : Line w b l) (hb : Below w.heap.size w w1) : Line w1 b l := by
  obtain ⟨p, n, c, h1, h2, h3⟩ := h.at_
  exact ⟨⟨p, n, c, h1, h2.later hb, h3.later hb⟩, h.rt⟩
theorem Line.lt {w : World} {b : Nat} {l : List Int} (h : Line w b l) : b < w.heap.size := by
  obtain ⟨p, n, c, h1, h2, h3⟩ := h.at_
  exact h2.lt
/-- a row of numbers lies in no block that holds what is no number -/
theorem Nums.ne_blk {w : World} {p : Option Addr} {cap g : Nat} {xs : List Int} {t : TypeId} {cs : Array Value} (h : Nums w p cap xs) (hB : Blk w g t cs) (hv : ∀ (i : Nat) (z : Int), cs[i]? ≠ some (Value.int .i64 z)) : 0 < xs.length → ∀ b off, p = some ⟨b, off, none⟩ → b ≠ g := by
  intro h0 b off hp e
  obtain ⟨b', off', h1, _, h3⟩ := h.at_ 0 h0
  rw [hp] at h1
  simp only [Option.some.injEq, Addr.mk.injEq, and_true] at h1
  obtain ⟨rfl, rfl⟩ := h1
  rw [e, hB.cell] at h3
  exact hv _ _ h3
/-- where a block alone turns, rows that lie elsewhere are as they were -/
theorem Nums.beside {w w1 : World} {p : Option Addr} {cap g : Nat} {xs : List Int} (h : Nums w p cap xs) (hg : w.grownBy w1 (some g)) (hne : 0 < xs.length → ∀ b off, p = some ⟨b, off, none⟩ → b ≠ g) : Nums w1 p cap xs :=
  ⟨⟨fun i hi => by
    obtain ⟨b, off, h1, h2, h3⟩ := h.cells.at_ i hi
    have hb := hne (by rw [List.length_map] at hi; omega) b off h1
    refine ⟨b, off, h1, Nat.lt_of_lt_of_le h2 hg.size, ?_⟩
    rw [World.cell?_of_block (w := w) (a := ⟨b, off + i, none⟩) (hg.block b h2 (by simpa using hb))]
    exact h3⟩, h.le, h.big, h.nil⟩
/-- the one line turns: the other one is as it was -/
theorem Line.beside {w w1 : World} {b g : Nat} {l k : List Int} (h : Line w b l) (hk : Line w g k) (hg : w.grownBy w1 (some g)) (hne : b ≠ g) : Line w1 b l := by
  obtain ⟨p, n, c, h1, h2, h3⟩ := h.at_
  obtain ⟨p2, n2, c2, -, k2, -⟩ := hk.at_
  exact ⟨⟨p, n, c, h1, h2.beside hg (by simpa using hne), h3.beside hg (h3.ne_blk k2 (fun i z => by rcases i with _ | _ | i <;> simp))⟩, h.rt⟩

set_option maxHeartbeats 4000000 in
theorem newLine_any (w : World) : Calls Try.prog 17 #[] w fun e w' => ∃ b, e = .returned (.pointer (some ⟨b, 0, none⟩)) ∧ Line w' b [0] ∧ w.heap.size ≤ b ∧ Below w.heap.size w w' := by
  go_enter Try.func17, Try.ntmps17
  go_wp2_with fail
  refine (new_any _).mono ?_
  rintro e w1 ⟨g, rfl, N, hb⟩
  obtain ⟨V, hV⟩ : ∃ V, V = w1.alloc (Obj.cells #[.slice (some ⟨g, 0, none⟩) 1 1, .slice none 0 0] 57) := ⟨_, rfl⟩
  have K : Blk V w1.heap.size 57 #[.slice (some ⟨g, 0, none⟩) 1 1, .slice none 0 0] := by rw [hV]; exact Blk.made _ _ _
  have hb1 : Below w1.heap.size w1 V := by rw [hV]; exact below_alloc1 _ _
  have HL : Hid (Line V w1.heap.size [0]) := Lib.hid ⟨⟨_, 1, 1, rfl, K, N.later hb1⟩, by decide⟩
  have HB := Lib.hid (below_trans hb hb1)
  have HS := Lib.hid hb.size
  have HV := Lib.hid hV
  clear hV K hb1 N hb
  go_wp2_with fail
  rw [← HV.out]
  go_ret
  exact ⟨_, rfl, HL.out, HS.out, HB.out⟩

set_option maxRecDepth 100000 in
set_option maxHeartbeats 8000000 in
theorem lineBehind_any (l : List Int) (b x : Nat) (hx : x < l.length) (hn : l.length < 1000) (w : World) (h : Line w b l) :
    Calls Try.prog 18 #[.pointer (some ⟨b, 0, none⟩), .int .i64 x] w fun e w' => e = .returned (.int .i64 l.length) ∧ Line w' b (behL l x) ∧ w.grownBy w' (some b) := by
  obtain ⟨p, n, c, hn0, K, N⟩ := h.at_
  have HRT := Lib.hid h.rt
  have HLE : Hid (l.length = n) := Lib.hid hn0.symm
  rw [← hn0] at hx hn ⊢
  obtain ⟨m, hm⟩ : ∃ m, n + 1 = m := ⟨_, rfl⟩
  obtain ⟨L, hL⟩ : ∃ L, behL l x = L := ⟨_, rfl⟩
  have HBD := Lib.hid (behind_ok HRT.out x (by rw [HLE.out]; exact hx))
  rw [hL] at HBD ⊢
  have HLL : Hid (L.length = m) := Lib.hid (by rw [HBD.out.len, HLE.out]; exact hm)
  have HR2 : Hid (Rt L) := Lib.hid (HBD.out.right (by rw [HLE.out]; exact hn))
  have HBE := Lib.hid (show Calls Try.prog 22 #[.agg #[.slice p n c], .int .i64 x] w (BehPost w L m n 0) from by
    have := behind_any l n HLE.out HRT.out hn p c x hx w N
    rw [hL, hm] at this
    exact this)
  have HK := Lib.hid K
  have k0 := K.cell 0
  have k1 := K.cell 1
  have q45 := fun (w : World) (a : Option Addr) (n c n' c' : Nat) => (show (binOp .eql 45 (.slice a n c) (.slice none n' c')).run Try.prog w = .ok (.bool a.isNone) w from Lib.run_eql_slice_nil w _ _ a n c n' c' Try.underlying45)
  clear h K N hn0 hm hL
  go_enter Try.func18, Try.ntmps18
  go_wp2_with fail
  refine HBE.out.mono ?_
  rintro e w1 ⟨q2, c2, rfl, N1, hb⟩
  have K1 := HK.out.later hb
  obtain ⟨o, ho⟩ : ∃ o, o = Obj.cells #[.slice q2 m c2] 54 := ⟨_, rfl⟩
  obtain ⟨V, hV⟩ : ∃ V, V = w1.setCell ⟨b, 0, none⟩ (.slice q2 m c2) := ⟨_, rfl⟩
  have j0 := K1.cell 0
  have f0 := K1.free 0
  have jl := K1.lt
  have hne : b ≠ w1.heap.size := by omega
  have hL0 : Line V b L := ⟨⟨q2, m, c2, HLL.out.symm, by rw [hV]; exact K1.put 0 (.slice q2 m c2), by rw [hV]; exact N1.far b 0 _ (N1.ne_blk K1 (fun i z => by rcases i with _ | _ | i <;> simp))⟩, HR2.out⟩
  have HFIN : Hid (Line (V.alloc o) b L) := Lib.hid (hL0.later (below_alloc1 _ _))
  have HGB : Hid (w.grownBy (V.alloc o) (some b)) := Lib.hid (gb_trans (gb_trans (gb_below hb (some b)) (by rw [hV]; exact grownBy_setCell' w1 b _)) (gb_below (below_alloc1 V o) (some b)))
  have HV := Lib.hid hV
  have HO := Lib.hid ho
  clear hV ho K1 hb N1 k0 k1 hL0
  go_wp2_with fail
  rw [← HV.out, ← HO.out]
  go_ret
  exact ⟨rfl, HFIN.out, HGB.out⟩

set_option maxHeartbeats 4000000 in
theorem lineRow_any (l : List Int) (b : Nat) (w : World) (h : Line w b l) :
    Calls Try.prog 19 #[.pointer (some ⟨b, 0, none⟩)] w (RowPost w l l.length) := by
  obtain ⟨p, n, c, hn0, K, N⟩ := h.at_
  have HR := Lib.hid (rowO_any l n hn0.symm h.rt p c w N)
  have k0 := K.cell 0
  have k1 := K.cell 1
  rw [← hn0]
  have q45 := fun (w : World) (a : Option Addr) (n c n' c' : Nat) => (show (binOp .eql 45 (.slice a n c) (.slice none n' c')).run Try.prog w = .ok (.bool a.isNone) w from Lib.run_eql_slice_nil w _ _ a n c n' c' Try.underlying45)
  clear h K N hn0
  go_enter Try.func19, Try.ntmps19
  go_wp2_with fail
  refine HR.out.mono ?_
  rintro e w2 ⟨g, r, rfl, h1, h2, h3, h4⟩
  have H1 := Lib.hid h1
  have H2 := Lib.hid h2
  have H4 := Lib.hid h4
  clear h1 h2 h4
  go_wp2_with fail
  go_ret
  exact ⟨g, r, rfl, H1.out, H2.out, h3, H4.out⟩
end Go.Proofs.Ytjpimaiogdckpaa
