/-
  LAYOUT: which place a cell belongs to: no cell is in two, each is in one.
-/
import Derived.Test.YtbaeckehchpfaaaRows
import Derived.ProofKit
import Derived.Test.YtbaeckehchpfaaaLayQ
namespace Go.Proofs.Ytbaeckehchpfaaa

structure LP where
  (s n bu sl t ce ma st ch : Int)

structure LP.Ok (q : LP) : Prop where
  hs : 1 ≤ q.s ∧ q.s ≤ 2
  hn : 0 ≤ q.n ∧ q.n ≤ 20
  hb : 1 ≤ q.bu ∧ q.bu ≤ 8
  hsl : 1 ≤ q.sl ∧ q.sl ≤ 8
  ht : 1 ≤ q.t ∧ q.t ≤ 9
  hce : 0 ≤ q.ce ∧ q.ce ≤ 16
  hma : 0 ≤ q.ma ∧ q.ma ≤ 8
  hst : 0 ≤ q.st ∧ q.st ≤ 8
  hch : 0 ≤ q.ch ∧ q.ch ≤ 8

def LP.C (q : LP) : Int := cellsP (ringsP q.t)
def LP.f18 (q : LP) : Int := 4 + 8 * q.s + q.s * q.C
def LP.f19 (q : LP) : Int := q.f18 + 4 * q.t
def LP.f20 (q : LP) : Int := q.f19 + q.ce
def LP.f21 (q : LP) : Int := q.f20 + q.ma * (2 + q.bu)
def LP.f22 (q : LP) : Int := q.f21 + q.st * (1 + q.sl)
def LP.f23 (q : LP) : Int := q.f22 + 2 * q.ch
def LP.f24 (q : LP) : Int := q.f23 + 8 * q.n

/-- the place of kind k of two numbers -/
def LP.val (q : LP) (a b : Int) : Nat → Int
  | 0 => atL 4 a 0 q.s 1 0 1
  | 1 => atL (4 + q.s) a 0 q.s 1 0 1
  | 2 => atL (4 + 2 * q.s) a 0 q.s 3 b 3
  | 3 => atL (4 + 5 * q.s) a 0 q.s 3 b 3
  | 4 => ringV q.s q.t (4 + 8 * q.s) a b
  | 5 => atL q.f18 a 1 q.t 4 b 4
  | 6 => atL q.f19 a 0 q.ce 1 0 1
  | 7 => atL q.f20 a 0 q.ma (2 + q.bu) b 2
  | 8 => atL (q.f20 + 2) a 0 q.ma (2 + q.bu) b q.bu
  | 9 => atL q.f21 a 0 q.st (1 + q.sl) 0 1
  | 10 => atL (q.f21 + 1) a 0 q.st (1 + q.sl) b q.sl
  | 11 => atL q.f22 a 0 q.ch 2 0 1
  | 12 => atL (q.f22 + 1) a 0 q.ch 2 0 1
  | 13 => atL q.f23 a 1 q.n 8 b 8
  | _ => -1

def oneK (k : Nat) : Bool := k == 0 || k == 1 || k == 6 || k == 9 || k == 11 || k == 12
def manyK (b : Int) (k : Nat) : Int := if k = 4 then sizeP b else 1

/-- is this visit one that counts? -/
structure LP.Vis (q : LP) (k : Nat) (a b i : Int) : Prop where
  kind : k < 14
  is : 0 ≤ q.val a b k
  one : oneK k = true → b = 0
  lo : 0 ≤ i
  hi : i < manyK b k

def rr (o : Int) : Int := if o < 4 then 0 else if o < 12 then 1 else if o < 28 then 2 else if o < 60 then 3 else 4

/-- whose is a cell? -/
def LP.own (q : LP) (x : Int) : Nat × Int × Int × Int :=
  if x < 4 + q.s then (0, x - 4, 0, 0)
  else if x < 4 + 2 * q.s then (1, x - (4 + q.s), 0, 0)
  else if x < 4 + 5 * q.s then (2, (x - (4 + 2 * q.s)) / 3, (x - (4 + 2 * q.s)) % 3, 0)
  else if x < 4 + 8 * q.s then (3, (x - (4 + 5 * q.s)) / 3, (x - (4 + 5 * q.s)) % 3, 0)
  else if x < q.f18 then (4, (x - (4 + 8 * q.s)) / q.C, rr ((x - (4 + 8 * q.s)) % q.C), (x - (4 + 8 * q.s)) % q.C - cellsP (rr ((x - (4 + 8 * q.s)) % q.C)))
  else if x < q.f19 then (5, (x - q.f18) / 4 + 1, (x - q.f18) % 4, 0)
  else if x < q.f20 then (6, x - q.f19, 0, 0)
  else if x < q.f21 then (if (x - q.f20) % (2 + q.bu) < 2 then (7, (x - q.f20) / (2 + q.bu), (x - q.f20) % (2 + q.bu), 0) else (8, (x - q.f20) / (2 + q.bu), (x - q.f20) % (2 + q.bu) - 2, 0))
  else if x < q.f22 then (if (x - q.f21) % (1 + q.sl) < 1 then (9, (x - q.f21) / (1 + q.sl), 0, 0) else (10, (x - q.f21) / (1 + q.sl), (x - q.f21) % (1 + q.sl) - 1, 0))
  else if x < q.f23 then (if (x - q.f22) % 2 < 1 then (11, (x - q.f22) / 2, 0, 0) else (12, (x - q.f22) / 2, 0, 0))
  else (13, (x - q.f23) / 8 + 1, (x - q.f23) % 8, 0)

theorem atL_in (first n low many c i inner : Int) (h : low ≤ n ∧ n < low + many ∧ 0 ≤ i ∧ i < inner) : atL first n low many c i inner = first + (n - low) * c + i := by
  unfold atL; rw [if_neg (by omega)]

theorem atL_ge (first n low many c i inner : Int) (h : 0 ≤ atL first n low many c i inner) : low ≤ n ∧ n < low + many ∧ 0 ≤ i ∧ i < inner := by
  unfold atL at h
  split at h
  · omega
  · omega

/-- in a group of many of the same size: which, and where in it -/
theorem group (A m c o : Int) (hc : 0 < c) (hA : 0 ≤ A ∧ A < m) (ho : 0 ≤ o ∧ o < c) : (A * c + o) / c = A ∧ (A * c + o) % c = o ∧ 0 ≤ A * c + o ∧ A * c + o < m * c := by
  refine ⟨?_, ?_, ?_, ?_⟩
  · rw [Int.add_comm, Int.add_mul_ediv_right _ _ (by omega), Int.ediv_eq_zero_of_lt ho.1 ho.2]; omega
  · rw [Int.add_comm, Int.add_mul_emod_self_right, Int.emod_eq_of_lt ho.1 ho.2]
  · have := Int.mul_nonneg hA.1 (show 0 ≤ c by omega); omega
  · have := Int.mul_le_mul_of_nonneg_right (show A + 1 ≤ m by omega) (show 0 ≤ c by omega)
    rw [Int.add_mul, Int.one_mul] at this; omega

theorem split_group (y m c : Int) (hc : 0 < c) (h0 : 0 ≤ y) (h1 : y < m * c) : 0 ≤ y / c ∧ y / c < m ∧ 0 ≤ y % c ∧ y % c < c ∧ y = y / c * c + y % c := by
  refine ⟨Int.ediv_nonneg h0 (by omega), Int.ediv_lt_of_lt_mul hc h1, Int.emod_nonneg _ (by omega), Int.emod_lt_of_pos _ hc, ?_⟩
  have := Int.mul_ediv_add_emod y c
  rw [Int.mul_comm] at this; omega

theorem rr_of (r i R : Int) (h0 : 0 ≤ r) (h1 : r < R) (h2 : R ≤ 5) (hi : 0 ≤ i ∧ i < sizeP r) : rr (cellsP r + i) = r ∧ cellsP r + i < cellsP R := by
  rcases (show r = 0 ∨ r = 1 ∨ r = 2 ∨ r = 3 ∨ r = 4 by omega) with rfl | rfl | rfl | rfl | rfl
  · rw [show sizeP 0 = 4 from rfl] at hi; rw [show cellsP 0 = 0 from rfl]
    refine ⟨by unfold rr; repeat' split
               all_goals omega, ?_⟩
    have : (4 : Int) ≤ cellsP R := by rcases (show R = 1 ∨ R = 2 ∨ R = 3 ∨ R = 4 ∨ R = 5 by omega) with rfl | rfl | rfl | rfl | rfl <;> decide
    omega
  · rw [show sizeP 1 = 8 from rfl] at hi; rw [show cellsP 1 = 4 from rfl]
    refine ⟨by unfold rr; repeat' split
               all_goals omega, ?_⟩
    have : (12 : Int) ≤ cellsP R := by rcases (show R = 2 ∨ R = 3 ∨ R = 4 ∨ R = 5 by omega) with rfl | rfl | rfl | rfl <;> decide
    omega
  · rw [show sizeP 2 = 16 from rfl] at hi; rw [show cellsP 2 = 12 from rfl]
    refine ⟨by unfold rr; repeat' split
               all_goals omega, ?_⟩
    have : (28 : Int) ≤ cellsP R := by rcases (show R = 3 ∨ R = 4 ∨ R = 5 by omega) with rfl | rfl | rfl <;> decide
    omega
  · rw [show sizeP 3 = 32 from rfl] at hi; rw [show cellsP 3 = 28 from rfl]
    refine ⟨by unfold rr; repeat' split
               all_goals omega, ?_⟩
    have : (60 : Int) ≤ cellsP R := by rcases (show R = 4 ∨ R = 5 by omega) with rfl | rfl <;> decide
    omega
  · rw [show sizeP 4 = 64 from rfl] at hi; rw [show cellsP 4 = 60 from rfl]
    refine ⟨by unfold rr; repeat' split
               all_goals omega, ?_⟩
    have : (124 : Int) ≤ cellsP R := by rcases (show R = 5 by omega) with rfl; decide
    omega

theorem rr_split (o R : Int) (h0 : 0 ≤ o) (h1 : 1 ≤ R) (h2 : R ≤ 5) (h : o < cellsP R) : 0 ≤ rr o ∧ rr o < R ∧ 0 ≤ o - cellsP (rr o) ∧ o - cellsP (rr o) < sizeP (rr o) := by
  rcases (show R = 1 ∨ R = 2 ∨ R = 3 ∨ R = 4 ∨ R = 5 by omega) with rfl | rfl | rfl | rfl | rfl
  · rw [show cellsP 1 = 4 from rfl] at h
    unfold rr; rw [if_pos (by omega), show cellsP 0 = 0 from rfl, show sizeP 0 = 4 from rfl]; omega
  all_goals
    unfold rr
    repeat' split
    all_goals simp only [show cellsP 0 = 0 from rfl, show cellsP 1 = 4 from rfl, show cellsP 2 = 12 from rfl, show cellsP 3 = 28 from rfl, show cellsP 4 = 60 from rfl, show cellsP 5 = 124 from rfl, show sizeP 0 = 4 from rfl, show sizeP 1 = 8 from rfl, show sizeP 2 = 16 from rfl, show sizeP 3 = 32 from rfl, show sizeP 4 = 64 from rfl] at h ⊢
    all_goals omega
end Go.Proofs.Ytbaeckehchpfaaa
