/-
  REGIONS THAT DRAW THEIR ORDER AND HOLD SEVERAL CALLS THAT MAKE MEMORY, whose results (slices, pointers) other calls of the region look at: one walk in the order of the text. What a maker hands out is any value of its kind, and a fact on it that stays true as memory grows; all else is quiet.
-/
import Derived.Test.YthbpoagkfpalfaaAfter
import Derived.StillTail
namespace Go.Proofs.Ythbpoagkfpalfaa
open Go.RowKit

/-- what an operation that makes memory hands out: T of the value alone, S of the value in memory -/
structure Maker where
  T : Value → Prop
  S : Value → World → Prop
  any : ∃ v, T v
  mono : ∀ v (w w' : World), S v w → Below w.heap.size w w' → S v w'

/-- a value that is known -/
def Maker.val (u : Value) : Maker := ⟨fun v => v = u, fun _ _ => True, ⟨u, rfl⟩, fun _ _ _ _ _ => trivial⟩

/-- a slice of one element, in a block of its own -/
def Maker.row (t : TypeId) (cs : Array Value) : Maker := ⟨fun v => ∃ g, v = .slice (some ⟨g, 0, none⟩) 1 1, fun v w => ∃ g, v = .slice (some ⟨g, 0, none⟩) 1 1 ∧ w.heap[g]? = some (.cells cs t (0, 0)), ⟨_, 0, rfl⟩,
  fun _ _ _ ⟨g, h1, h2⟩ hb => ⟨g, h1, (hb.block g (Array.getElem?_eq_some_iff.1 h2).1).trans h2⟩⟩

def makeUpon (P : Program) (m : Maker) (w : World) : Result Next → Prop
  | .ok (.value v) w' => m.T v ∧ m.S v w' ∧ Below w.heap.size w w'
  | .ok (.enter f args) w' => Calls P f args w' fun e w'' => ∃ v, e = .returned v ∧ m.T v ∧ m.S v w'' ∧ Below w.heap.size w w''
  | _ => False

/-- operations that enter no function -/
def plainB (o : Oper) : Bool :=
  match o.op with
  | .move _ | .assign _ | .pick .. | .load .. | .binOp .. | .unOp .. | .convert .. | .fieldAddr .. | .field .. | .indexAddr .. | .index .. | .extract .. | .build .. | .slice .. => true
  | .call c => match c.callee with
    | .builtin .len => true
    | _ => false
  | _ => false

theorem no_enter_v {P : Program} {s : Sem Value} {w w' : World} {f : FuncId} {args : Array Value} (h : (do pure (Next.value (← s)) : Sem Next).run P w = .ok (.enter f args) w') : False := by
  simp only [Sem.run_bind] at h
  cases hs : s.run P w with
  | ok x w1 => rw [hs] at h; simp [Result.andThen, Sem.run_pure] at h
  | halt x w1 => rw [hs] at h; simp [Result.andThen] at h

theorem plain_no_enter {P : Program} {o : Oper} (hp : plainB o = true) {ρ : Operand → Value} {w w' : World} {f : FuncId} {args : Array Value} (h : (execOp ρ o).run P w = .ok (.enter f args) w') : False := by
  obtain ⟨dst, op, type, pos, after, guard⟩ := o
  cases op <;> simp only [plainB] at hp <;> simp only [execOp] at h <;> first
    | exact no_enter_v h
    | (simp [Sem.run_pure] at h; done)
    | (exact absurd hp Bool.false_ne_true)
    | skip
  case pick c a b =>
    simp only [Sem.run_bind] at h
    cases hs : (asBool (ρ c)).run P w with
    | ok x w1 => rw [hs] at h; simp [Result.andThen, Sem.run_pure] at h
    | halt x w1 => rw [hs] at h; simp [Result.andThen] at h
  case call c =>
    cases hc : c.callee with
    | builtin b =>
      rw [hc] at hp
      cases b <;> simp only at hp <;> first
        | exact absurd hp Bool.false_ne_true
        | skip
      simp only [resolve, hc, Sem.run_bind, Sem.run_pure, Result.andThen, invoke, builtin] at h
      exact no_enter_v (s := Builtin.len_ c.argTypes type (c.args.map ρ)) (by simpa only [Sem.run_bind, Sem.run_pure, Result.andThen] using h)
    | value f => rw [hc] at hp; exact absurd hp Bool.false_ne_true
    | invoke r m => rw [hc] at hp; exact absurd hp Bool.false_ne_true


def mk (M : List (Nat × Maker)) (k : Nat) : Option Maker := (M.find? fun p => p.1 == k).map (·.2)

/-- the lexical frame: the first k operations' values laid -/
def fr (ops : Array Oper) (a0 : Act) (vals : Nat → Value) : Nat → Act
  | 0 => a0
  | k + 1 => (fr ops a0 vals k).put ((ops[k]?).bind (·.dst)) (vals k)

def directB (ops : Array Oper) (k j : Nat) : Bool := match ops[k]? with
  | some o => o.after.any fun e => Region.binds .any e && e.on == j
  | none => false

def pathB (ops : Array Oper) : Nat → List Nat → Nat → Bool
  | k, [], j => directB ops k j
  | k, x :: r, j => directB ops k x && pathB ops x r j

def Anc (ops : Array Oper) (k j : Nat) : Prop := ∃ p, pathB ops k p j = true

/-- each of the first n operations waits for those that are ahead of it alone, and for each whose slot it looks at; none of them has another one's slot -/
def growB (ops : Array Oper) (n : Nat) : Bool := Region.noSelect ops && (List.range n).all fun k => match ops[k]? with
  | none => false
  | some o => o.after.all (fun e => !Region.binds .any e || decide (e.on < k)) && (List.range n).all fun j => match (ops[j]?).bind (·.dst) with
    | none => true
    | some t => (!(o.looksAt ops).contains t || directB ops k j) && (j == k || o.dst != some t)

def plainsB (M : List (Nat × Maker)) (ops : Array Oper) (n : Nat) : Bool := (List.range n).all fun k => (mk M k).isSome || match ops[k]? with
  | none => false
  | some o => plainB o

/-- THE LEXICAL WALK -/
def wpGrow (P : Program) (ops : Array Oper) (C : World → Prop) (M : List (Nat × Maker)) (Q : Act → (Nat → World → Prop) → Prop) : List Oper → Nat → Act → (Nat → World → Prop) → Prop
  | [], _, a, F => Q a F
  | o :: r, k, a, F => match mk M k with
    | none => wpQuiet P ops C (fun a' => wpGrow P ops C M Q r (k + 1) a' F) [o] a
    | some m => if Region.wanted o (yielded ops a.tmps) = true then
        (∀ w, C w → (∀ j, Anc ops k j → F j w) → makeUpon P m w ((execOp a.eval o).run P w)) ∧ ∀ v, m.T v → wpGrow P ops C M Q r (k + 1) (a.put o.dst v) (fun j w => if j = k then m.S v w else F j w)
      else wpGrow P ops C M Q r (k + 1) (a.put o.dst undef) F

section
variable {P : Program} {ops : Array Oper} {C : World → Prop} {M : List (Nat × Maker)} {a0 : Act} {n : Nat}

theorem wpGrow_nil {Q : Act → (Nat → World → Prop) → Prop} {k : Nat} {a : Act} {F : Nat → World → Prop} (h : Q a F) : wpGrow P ops C M Q [] k a F := h
theorem wpGrow_plain {Q : Act → (Nat → World → Prop) → Prop} {o : Oper} {r : List Oper} {k : Nat} {a : Act} {F : Nat → World → Prop} (hk : mk M k = none)
    (h : wpQuiet P ops C (fun a' => wpGrow P ops C M Q r (k + 1) a' F) [o] a) : wpGrow P ops C M Q (o :: r) k a F := by
  unfold wpGrow; rw [hk]; exact h
theorem wpGrow_make {Q : Act → (Nat → World → Prop) → Prop} {o : Oper} {r : List Oper} {k : Nat} {a : Act} {F : Nat → World → Prop} (m : Maker) (hk : mk M k = some m) (hw : Region.wanted o (yielded ops a.tmps) = true)
    (h1 : ∀ w, C w → (∀ j, Anc ops k j → F j w) → makeUpon P m w ((execOp a.eval o).run P w)) (h2 : ∀ v, m.T v → wpGrow P ops C M Q r (k + 1) (a.put o.dst v) (fun j w => if j = k then m.S v w else F j w)) : wpGrow P ops C M Q (o :: r) k a F := by
  unfold wpGrow; rw [hk]; simp only [hw, if_true]; exact ⟨h1, h2⟩
theorem wpGrow_skip {Q : Act → (Nat → World → Prop) → Prop} {o : Oper} {r : List Oper} {k : Nat} {a : Act} {F : Nat → World → Prop} (m : Maker) (hk : mk M k = some m) (hw : Region.wanted o (yielded ops a.tmps) = false)
    (h : wpGrow P ops C M Q r (k + 1) (a.put o.dst undef) F) : wpGrow P ops C M Q (o :: r) k a F := by
  unfold wpGrow; rw [hk]; simp only [hw]; exact h

/-- a call whose value is known -/
theorem wpGrow_val {Q : Act → (Nat → World → Prop) → Prop} {o : Oper} {r : List Oper} {k : Nat} {a : Act} {F : Nat → World → Prop} {u : Value} (hk : mk M k = some (Maker.val u)) (hw : Region.wanted o (yielded ops a.tmps) = true)
    (h1 : ∀ w, C w → (∀ j, Anc ops k j → F j w) → makeUpon P (Maker.val u) w ((execOp a.eval o).run P w)) (h2 : ∀ a', a.put o.dst u = a' → wpGrow P ops C M Q r (k + 1) a' (fun j w => if j = k then True else F j w)) : wpGrow P ops C M Q (o :: r) k a F :=
  wpGrow_make _ hk hw h1 fun v hv => by
    have hv' : v = u := hv
    subst hv'
    exact h2 _ rfl

/-- any other maker -/
theorem wpGrow_any {Q : Act → (Nat → World → Prop) → Prop} {o : Oper} {r : List Oper} {k : Nat} {a : Act} {F : Nat → World → Prop} (m : Maker) (hk : mk M k = some m) (hw : Region.wanted o (yielded ops a.tmps) = true)
    (h1 : ∀ w, C w → (∀ j, Anc ops k j → F j w) → makeUpon P m w ((execOp a.eval o).run P w)) (h2 : ∀ v, m.T v → ∀ a', a.put o.dst v = a' → wpGrow P ops C M Q r (k + 1) a' (fun j w => if j = k then m.S v w else F j w)) : wpGrow P ops C M Q (o :: r) k a F :=
  wpGrow_make m hk hw h1 fun v hv => h2 v hv _ rfl

theorem wpGrow_pass {Q : Act → (Nat → World → Prop) → Prop} {o : Oper} {r : List Oper} {k : Nat} {a : Act} {F : Nat → World → Prop} (m : Maker) (hk : mk M k = some m) (hw : Region.wanted o (yielded ops a.tmps) = false)
    (h : ∀ a', a.put o.dst undef = a' → wpGrow P ops C M Q r (k + 1) a' F) : wpGrow P ops C M Q (o :: r) k a F :=
  wpGrow_skip m hk hw (h _ rfl)

theorem make_call {P : Program} {m : Maker} {w : World} {f : FuncId} {args : Array Value} (h : Calls P f args w fun e w'' => ∃ v, e = .returned v ∧ m.T v ∧ m.S v w'' ∧ Below w.heap.size w w'') : makeUpon P m w (.ok (.enter f args) w) := h
theorem make_val {P : Program} {u : Value} {w : World} {f : FuncId} {args : Array Value} (h : Calls P f args w fun e w'' => e = .returned u ∧ Below w.heap.size w w'') : makeUpon P (Maker.val u) w (.ok (.enter f args) w) :=
  h.mono fun _ _ ⟨he, hb⟩ => ⟨u, he, rfl, trivial, hb⟩
theorem make_same {P : Program} {u : Value} {w : World} {f : FuncId} {args : Array Value} (h : Calls P f args w fun e w'' => e = .returned u ∧ w'' = w) : makeUpon P (Maker.val u) w (.ok (.enter f args) w) :=
  h.mono fun _ _ ⟨he, hb⟩ => ⟨u, he, rfl, trivial, hb ▸ Below.refl _ _⟩
theorem make_row {P : Program} {w : World} {t : TypeId} {cs : Array Value} : makeUpon P (Maker.row t cs) w (.ok (.value (.slice (some ⟨w.heap.size, 0, none⟩) 1 1)) (w.alloc (Obj.cells cs t))) :=
  ⟨⟨_, rfl⟩, ⟨_, rfl, heap_alloc_new w _⟩, (Below.refl _ w).alloc (Nat.le_refl _) _⟩

theorem fr_congr {v1 v2 : Nat → Value} : ∀ k, (∀ j, j < k → v1 j = v2 j) → fr ops a0 v1 k = fr ops a0 v2 k
  | 0, _ => rfl
  | k + 1, h => by
    show (fr ops a0 v1 k).put _ (v1 k) = (fr ops a0 v2 k).put _ (v2 k)
    rw [fr_congr k (fun j hj => h j (by omega)), h k (by omega)]

/-- a frame in which the slots of the operations in D have their values, and all else is as it was -/
def IsFr (ops : Array Oper) (a0 : Act) (D : Nat → Prop) (vals : Nat → Value) (a : Act) : Prop :=
  a.defers = a0.defers ∧ ∀ t, (∀ j, D j → (ops[j]?).bind (·.dst) = some t → a.tmps[t]? = (a0.tmps[t]?).map fun _ => vals j) ∧ ((∀ j, D j → (ops[j]?).bind (·.dst) ≠ some t) → a.tmps[t]? = a0.tmps[t]?)

theorem IsFr.put {D : Nat → Prop} {vals vals' : Nat → Value} {a : Act} {i : Nat} {v : Value} (h : IsFr ops a0 D vals a) (hd : ∀ j, D j → ∀ t, (ops[j]?).bind (·.dst) = some t → (ops[i]?).bind (·.dst) ≠ some t)
    (hv : ∀ j, D j → vals' j = vals j) (hi : vals' i = v) : IsFr ops a0 (fun j => D j ∨ j = i) vals' (a.put ((ops[i]?).bind (·.dst)) v) := by
  cases he : (ops[i]?).bind (·.dst) with
  | none =>
    refine ⟨h.1, fun t => ⟨fun j hj ht => ?_, fun hno => (h.2 t).2 fun j hj => hno j (.inl hj)⟩⟩
    rcases hj with hj | rfl
    · rw [hv j hj]; exact (h.2 t).1 j hj ht
    · rw [he] at ht; simp at ht
  | some d =>
    refine ⟨h.1, fun t => ⟨fun j hj ht => ?_, fun hno => ?_⟩⟩
    · rcases hj with hj | rfl
      · have hne : d ≠ t := fun e => hd j hj t ht (by rw [he, e])
        show (a.tmps.setIfInBounds d v)[t]? = _
        rw [Array.getElem?_setIfInBounds_ne hne, hv j hj]; exact (h.2 t).1 j hj ht
      · rw [he] at ht; injection ht with ht; subst ht
        have h0 := (h.2 d).2 fun k hk hkd => hd k hk d hkd he
        show (a.tmps.setIfInBounds d v)[d]? = _
        rw [Array.getElem?_setIfInBounds_self, ← h0, hi]
        by_cases hs : d < a.tmps.size
        · rw [if_pos hs, Array.getElem?_eq_getElem hs]; rfl
        · rw [if_neg hs, Array.getElem?_eq_none (Nat.not_lt.1 hs)]; rfl
    · have hne : d ≠ t := fun e => hno i (.inr rfl) (by rw [he, e])
      show (a.tmps.setIfInBounds d v)[t]? = _
      rw [Array.getElem?_setIfInBounds_ne hne]; exact (h.2 t).2 fun j hj => hno j (.inl hj)

theorem IsFr.same {D D' : Nat → Prop} {vals vals' : Nat → Value} {a b : Act} (ha : IsFr ops a0 D vals a) (hb : IsFr ops a0 D' vals' b) (t : Tmp)
    (h : ∀ j, (ops[j]?).bind (·.dst) = some t → (D j → D' j ∧ vals j = vals' j) ∧ (D' j → D j)) : a.tmps[t]? = b.tmps[t]? := by
  by_cases hex : ∃ j : Nat, D j ∧ (ops[j]?).bind (·.dst) = some t
  · obtain ⟨j, h1, hj⟩ := hex
    obtain ⟨h2, h3⟩ := (h j hj).1 h1
    rw [(ha.2 t).1 j h1 hj, (hb.2 t).1 j h2 hj, h3]
  · rw [(ha.2 t).2 fun j hd hj => hex ⟨j, hd, hj⟩, (hb.2 t).2 fun j hd hj => hex ⟨j, (h j hj).2 hd, hj⟩]

theorem same_exec {o : Oper} {a b : Act} (hs : ∀ cs x, o.op ≠ .select cs x) (h : ∀ t ∈ o.looksAt ops, a.tmps[t]? = b.tmps[t]?) :
    execOp a.eval o = execOp b.eval o ∧ Region.wanted o (yielded ops a.tmps) = Region.wanted o (yielded ops b.tmps) := by
  constructor
  · refine execOp_congr o hs fun x hx => ?_
    cases x with
    | tmp t =>
      have := h t (List.mem_append_left _ (List.mem_filterMap.2 ⟨.tmp t, by simpa using hx, rfl⟩))
      show a.tmps.getD t undef = b.tmps.getD t undef
      simp only [Array.getD_eq_getD_getElem?, this]
    | _ => rfl
  · unfold Region.wanted
    cases hg : o.guard with
    | none => rfl
    | some gw =>
      obtain ⟨g, want⟩ := gw
      have hy : yielded ops a.tmps g = yielded ops b.tmps g := by
        unfold yielded
        cases ht : (ops[g]?).bind (·.dst) with
        | none => rfl
        | some t =>
          have := h t (List.mem_append_right _ (by simp [hg, ht]))
          simp only [Option.bind_some, this]
      simp only [hy]

/-- what the Bool says -/
structure GrowOk (ops : Array Oper) (n : Nat) : Prop where
  sel : ∀ (j : Nat) (o : Oper) cs b, ops[j]? = some o → o.op ≠ .select cs b
  ahead : ∀ (k : Nat) (o : Oper), k < n → ops[k]? = some o → ∀ e ∈ o.after, Region.binds .any e = true → e.on < k
  looks : ∀ (k j : Nat) (o : Oper) (t : Tmp), k < n → j < n → ops[k]? = some o → (ops[j]?).bind (·.dst) = some t → t ∈ o.looksAt ops → directB ops k j = true
  apart : ∀ (k j : Nat) (t : Tmp), k < n → j < n → j ≠ k → (ops[j]?).bind (·.dst) = some t → (ops[k]?).bind (·.dst) ≠ some t

theorem growB_ok {n : Nat} (h : growB ops n = true) : GrowOk ops n := by
  unfold growB at h
  rw [Bool.and_eq_true] at h
  obtain ⟨h1, h2⟩ := h
  rw [List.all_eq_true] at h2
  have key : ∀ (k : Nat) (o : Oper), k < n → ops[k]? = some o → (o.after.all (fun e => !Region.binds .any e || decide (e.on < k)) = true) ∧ ∀ (j : Nat) (t : Tmp), j < n → (ops[j]?).bind (·.dst) = some t → ((!(o.looksAt ops).contains t || directB ops k j) && (j == k || o.dst != some t)) = true := by
    intro k o hlt hk
    have h3 := h2 k (by simpa using hlt)
    simp only [hk, Bool.and_eq_true] at h3
    refine ⟨h3.1, fun j t hjl hj => ?_⟩
    have h4 := List.all_eq_true.1 h3.2 j (by simpa using hjl)
    simp only [hj] at h4
    exact h4
  refine ⟨Region.noSelect_spec h1, fun k o hlt hk e he hb => ?_, fun k j o t hlt hjn hk hj hl => ?_, fun k j t hlt hjn hne hj hk => ?_⟩
  · have := Array.all_eq_true_iff_forall_mem.1 (key k o hlt hk).1 e he
    simpa [hb] using this
  · have := (key k o hlt hk).2 j t hjn hj
    rw [Bool.and_eq_true] at this
    simpa [hl] using this.1
  · cases ho : ops[k]? with
    | none => rw [ho] at hk; simp at hk
    | some o =>
      have := (key k o hlt ho).2 j t hjn hj
      rw [Bool.and_eq_true] at this
      rw [ho] at hk
      simp only [Option.bind_some] at hk
      have h5 := this.2
      simp [hne, hk] at h5

theorem direct_spec {k j : Nat} (h : directB ops k j = true) : ∃ o, ops[k]? = some o ∧ ∃ e ∈ o.after, Region.binds .any e = true ∧ e.on = j := by
  unfold directB at h
  cases ho : ops[k]? with
  | none => rw [ho] at h; exact absurd h Bool.false_ne_true
  | some o =>
    rw [ho] at h
    obtain ⟨e, he, hb⟩ := Array.any_eq_true'.1 h
    simp only [Bool.and_eq_true, beq_iff_eq] at hb
    exact ⟨o, rfl, e, he, hb.1, hb.2⟩

theorem Anc.lt {n : Nat} (hg : GrowOk ops n) {k j : Nat} (hk : k < n) (h : Anc ops k j) : j < k := by
  obtain ⟨p, hp⟩ := h
  induction p generalizing k with
  | nil =>
    obtain ⟨o, ho, e, he, hb, rfl⟩ := direct_spec hp
    exact hg.ahead k o hk ho e he hb
  | cons x r ih =>
    simp only [pathB, Bool.and_eq_true] at hp
    obtain ⟨o, ho, e, he, hb, rfl⟩ := direct_spec hp.1
    have := hg.ahead k o hk ho e he hb
    exact Nat.lt_trans (ih (by omega) hp.2) this

def wantedAt (ops : Array Oper) (a0 : Act) (vals : Nat → Value) (k : Nat) : Bool := match ops[k]? with
  | some o => Region.wanted o (yielded ops (fr ops a0 vals k).tmps)
  | none => false

def FV (ops : Array Oper) (M : List (Nat × Maker)) (a0 : Act) (vals : Nat → Value) (j : Nat) (w : World) : Prop := ∀ m, mk M j = some m → wantedAt ops a0 vals j = true → m.S (vals j) w

structure LexAt (P : Program) (ops : Array Oper) (C : World → Prop) (M : List (Nat × Maker)) (a0 : Act) (vals : Nat → Value) (k : Nat) (o : Oper) : Prop where
  no : wantedAt ops a0 vals k = false → vals k = undef
  plain : wantedAt ops a0 vals k = true → mk M k = none → ∀ w, C w → o.quietAt P (fr ops a0 vals k) C w (vals k)
  make : wantedAt ops a0 vals k = true → ∀ m, mk M k = some m → ∀ w, C w → (∀ j, Anc ops k j → FV ops M a0 vals j w) → makeUpon P m w ((execOp (fr ops a0 vals k).eval o).run P w)

theorem wantedAt_congr {v1 v2 : Nat → Value} {k : Nat} (h : ∀ j, j < k → v1 j = v2 j) : wantedAt ops a0 v1 k = wantedAt ops a0 v2 k := by
  unfold wantedAt; rw [fr_congr k h]

theorem FV_congr {v1 v2 : Nat → Value} {k : Nat} {w : World} (h : ∀ j, j < k + 1 → v1 j = v2 j) (hf : FV ops M a0 v1 k w) : FV ops M a0 v2 k w := by
  intro m hm hw
  rw [← wantedAt_congr (fun j hj => h j (by omega))] at hw
  rw [← h k (by omega)]; exact hf m hm hw

/-- values of all operations, out of values of the makers -/
theorem grow_vals {n : Nat} (hn : n ≤ ops.size) (hg : GrowOk ops n) {Q : Act → (Nat → World → Prop) → Prop} (V : Nat → Value) (hV : ∀ k m, mk M k = some m → m.T (V k)) : ∀ (l : List Oper) (k : Nat) (pre : Nat → Value) (F : Nat → World → Prop), k + l.length = n → (∀ j, j < l.length → l[j]? = ops[k + j]?) →
    (∀ j w, j < k → FV ops M a0 pre j w → F j w) → (∀ j w, k ≤ j → F j w) → wpGrow P ops C M Q l k (fr ops a0 pre k) F →
    ∃ vals, (∀ j, j < k → vals j = pre j) ∧ (∀ i o, k ≤ i → i < n → ops[i]? = some o → LexAt P ops C M a0 vals i o) ∧ (∀ i m, k ≤ i → i < n → mk M i = some m → wantedAt ops a0 vals i = true → vals i = V i) ∧
      ∃ F', (∀ w, (∀ j, j < n → FV ops M a0 vals j w) → ∀ j, F' j w) ∧ Q (fr ops a0 vals (k + l.length)) F'
  | [], k, pre, F, hkn, hl, hF, hF2, h => by
    have hge : n = k := by simpa using hkn.symm
    refine ⟨pre, fun _ _ => rfl, fun i o hi hi2 ho => absurd hi2 (by omega), fun i m hi hi2 hm hw => absurd hi2 (by omega), F, fun w hw j => ?_, h⟩
    by_cases hj : j < k
    · exact hF j w hj (hw j (by omega))
    · exact hF2 j w (by omega)
  | o :: r, k, pre, F, hkn, hl, hF, hF2, h => by
    have h0 : ops[k]? = some o := by simpa using (hl 0 (by simp)).symm
    have hklt : k < n := by simp at hkn; omega
    have hr : ∀ j, j < r.length → r[j]? = ops[k + 1 + j]? := fun j hj => by have := hl (j + 1) (by simp; omega); simpa [Nat.add_assoc, Nat.add_comm 1 j] using this
    have fin : ∀ (u : Value) (F1 : Nat → World → Prop), (∀ vals : Nat → Value, (∀ j, j < k → vals j = pre j) → vals k = u → LexAt P ops C M a0 vals k o ∧ (∀ m, mk M k = some m → wantedAt ops a0 vals k = true → vals k = V k) ∧ ∀ w, (∀ j, j < k → FV ops M a0 pre j w → F j w) → FV ops M a0 vals k w → F1 k w) →
        (∀ j w, j ≠ k → F j w → F1 j w) → wpGrow P ops C M Q r (k + 1) ((fr ops a0 pre k).put o.dst u) F1 →
        ∃ vals, (∀ j, j < k → vals j = pre j) ∧ (∀ i o, k ≤ i → i < n → ops[i]? = some o → LexAt P ops C M a0 vals i o) ∧ (∀ i m, k ≤ i → i < n → mk M i = some m → wantedAt ops a0 vals i = true → vals i = V i) ∧
          ∃ F', (∀ w, (∀ j, j < n → FV ops M a0 vals j w) → ∀ j, F' j w) ∧ Q (fr ops a0 vals (k + (o :: r).length)) F' := by
      intro u F1 h1 h2 h3
      have e1 : fr ops a0 (fun j => if j = k then u else pre j) (k + 1) = (fr ops a0 pre k).put o.dst u := by
        show (fr ops a0 _ k).put ((ops[k]?).bind (·.dst)) (if k = k then u else pre k) = _
        rw [fr_congr k (fun j hj => show (if j = k then u else pre j) = pre j from if_neg (by omega)), h0, if_pos rfl]; rfl
      rw [← e1] at h3
      obtain ⟨vals, g1, g2, g3, F', g4, g5⟩ := grow_vals hn hg V hV r (k + 1) _ F1 (by simp at hkn; omega) hr (fun j w hj hf => by
        by_cases hjk : j = k
        · subst hjk
          exact (h1 (fun i => if i = j then u else pre i) (fun i hi => if_neg (by omega)) (if_pos rfl)).2.2 w (fun i hi hf => hF i w hi hf) hf
        · exact h2 j w hjk (hF j w (by omega) (FV_congr (fun i hi => if_neg (by omega)) hf)))
        (fun j w hj => h2 j w (by omega) (hF2 j w (by omega))) h3
      have gk : vals k = u := by rw [g1 k (by omega)]; exact if_pos rfl
      have gl : ∀ j, j < k → vals j = pre j := fun j hj => by rw [g1 j (by omega)]; exact if_neg (by omega)
      obtain ⟨q1, q2, q3⟩ := h1 vals gl gk
      refine ⟨vals, gl, fun i o' hi hi2 ho => ?_, fun i m hi hi2 hm hw => ?_, F', g4, by rw [show k + (o :: r).length = k + 1 + r.length by simp; omega]; exact g5⟩
      · by_cases hik : i = k
        · subst hik; rw [h0] at ho; injection ho with ho; subst ho; exact q1
        · exact g2 i o' (by omega) hi2 ho
      · by_cases hik : i = k
        · subst hik; exact q2 m hm hw
        · exact g3 i m (by omega) hi2 hm hw
    have wat : ∀ vals : Nat → Value, (∀ j, j < k → vals j = pre j) → wantedAt ops a0 vals k = Region.wanted o (yielded ops (fr ops a0 pre k).tmps) := fun vals hv => by
      unfold wantedAt; rw [h0, fr_congr k hv]
    unfold wpGrow at h
    cases hm : mk M k with
    | none =>
      rw [hm] at h
      simp only [wpQuiet] at h
      cases hw : Region.wanted o (yielded ops (fr ops a0 pre k).tmps) with
      | true =>
        rw [if_pos hw] at h
        obtain ⟨u, h1, h2⟩ := h
        refine fin u F (fun vals hv hk => ⟨⟨fun hn => ?_, fun _ _ w hc => ?_, fun _ m hm' => ?_⟩, fun m hm' => ?_, fun w _ _ => hF2 k w (by omega)⟩) (fun _ _ _ h => h) h2
        · rw [wat vals hv, hw] at hn; exact absurd hn Bool.noConfusion
        · rw [fr_congr k hv, hk]; exact h1 w hc
        · rw [hm] at hm'; exact absurd hm' (by simp)
        · rw [hm] at hm'; exact absurd hm' (by simp)
      | false =>
        rw [if_neg (by rw [hw]; exact Bool.false_ne_true)] at h
        refine fin undef F (fun vals hv hk => ⟨⟨fun _ => hk, fun hn => ?_, fun hn => ?_⟩, fun m hm' => ?_, fun w _ _ => hF2 k w (by omega)⟩) (fun _ _ _ h => h) h
        · rw [wat vals hv, hw] at hn; exact absurd hn Bool.false_ne_true
        · rw [wat vals hv, hw] at hn; exact absurd hn Bool.false_ne_true
        · rw [hm] at hm'; exact absurd hm' (by simp)
    | some m =>
      rw [hm] at h
      simp only at h
      cases hw : Region.wanted o (yielded ops (fr ops a0 pre k).tmps) with
      | true =>
        rw [if_pos hw] at h
        obtain ⟨h1, h2⟩ := h
        refine fin (V k) (fun j w => if j = k then m.S (V k) w else F j w) (fun vals hv hk => ⟨⟨fun hn => ?_, fun _ hn => ?_, fun _ m' hm' w hc hf => ?_⟩, fun m' hm' _ => hk, fun w _ hf => ?_⟩) (fun j w hj h => by simp only [if_neg hj]; exact h) (h2 (V k) (hV k m hm))
        · rw [wat vals hv, hw] at hn; exact absurd hn Bool.noConfusion
        · rw [hm] at hn; exact absurd hn (by simp)
        · rw [hm] at hm'; injection hm' with hm'; subst hm'
          rw [fr_congr k hv]
          refine h1 w hc fun j hj => ?_
          have hlt := Anc.lt hg hklt hj
          exact hF j w hlt (FV_congr (fun i hi => hv i (by omega)) (hf j hj))
        · simp only [if_true]
          have := hf m hm (by rw [wat vals hv, hw])
          rwa [hk] at this
      | false =>
        rw [if_neg (by rw [hw]; exact Bool.false_ne_true)] at h
        refine fin undef F (fun vals hv hk => ⟨⟨fun _ => hk, fun hn => ?_, fun hn => ?_⟩, fun m' _ hn => ?_, fun w _ _ => hF2 k w (by omega)⟩) (fun _ _ _ h => h) h
        · rw [wat vals hv, hw] at hn; exact absurd hn Bool.false_ne_true
        · rw [wat vals hv, hw] at hn; exact absurd hn Bool.false_ne_true
        · rw [wat vals hv, hw] at hn; exact absurd hn Bool.false_ne_true

structure Inv (P : Program) (ops : Array Oper) (C : World → Prop) (M : List (Nat × Maker)) (a0 : Act) (n : Nat) (listed : Array Bool) (a : Act) (w : World) (act : Nat → Value) (wt : Nat → Bool) : Prop where
  head : HeadInv .any ops n listed
  c : C w
  frm : IsFr ops a0 (fun j => listed.getD j false = true) act a
  agree : ∀ vals, (∀ i o, i < n → ops[i]? = some o → LexAt P ops C M a0 vals i o) → (∀ k m, listed.getD k false = true → mk M k = some m → wantedAt ops a0 vals k = true → wt k = true → vals k = act k) →
    ∀ k, listed.getD k false = true → vals k = act k ∧ wantedAt ops a0 vals k = wt k
  fact : ∀ k m, listed.getD k false = true → mk M k = some m → wt k = true → m.T (act k) ∧ m.S (act k) w

theorem done_or {listed : Array Bool} {j : Nat} (h : listed.getD j true = false → False) (hj : j < listed.size) : listed.getD j false = true := by
  simp only [Array.getD_eq_getD_getElem?, Array.getElem?_eq_getElem hj, Option.getD_some] at h ⊢
  cases hb : listed[j] with
  | true => rfl
  | false => exact absurd (h hb) id

theorem ready_ne (hn : n ≤ ops.size) (hg : GrowOk ops n) {listed : Array Bool} (hs : listed.size = ops.size) (hr : Region.ready .any ops listed = []) : ∀ k, k < n → listed.getD k false = true := by
  intro k
  induction k using Nat.strongRecOn with
  | ind k ih =>
    intro hk
    refine done_or (fun hnd => ?_) (by omega)
    have : k ∈ Region.ready .any ops listed := mem_ready.2 ⟨hnd, ops[k], Array.getElem?_eq_getElem (by omega), fun e he hb => by
      have hlt := hg.ahead k _ hk (Array.getElem?_eq_getElem (by omega)) e he hb
      exact ih e.on hlt (by omega)⟩
    rw [hr] at this; simp at this

theorem getD_done {listed : Array Bool} {j : Nat} (h : listed.getD j false = true) : listed.getD j true = true := by
  rcases Nat.lt_or_ge j listed.size with hj | hj
  · simp only [Array.getD_eq_getD_getElem?, Array.getElem?_eq_getElem hj, Option.getD_some] at h ⊢; exact h
  · simp [Array.getElem?_eq_none hj] at h

theorem getD_set {listed : Array Bool} {i j : Nat} (hi : i < listed.size) : ((listed.setIfInBounds i true).getD j false = true) ↔ (listed.getD j false = true ∨ j = i) := by
  by_cases hij : i = j
  · subst hij; simp [hi]
  · rw [getD_set_ne false hij]
    constructor
    · exact .inl
    · rintro (h | h)
      · exact h
      · exact absurd h.symm hij

theorem fr_isFr (hg : GrowOk ops n) (vals : Nat → Value) : ∀ k, k ≤ n → IsFr ops a0 (fun j => j < k) vals (fr ops a0 vals k)
  | 0, _ => ⟨rfl, fun t => ⟨fun j hj => absurd hj (by omega), fun _ => rfl⟩⟩
  | k + 1, hk => by
    have := (fr_isFr hg vals k (by omega)).put (vals' := vals) (i := k) (v := vals k) (fun j hj t ht => hg.apart k j t (by omega) (by omega) (by omega) ht) (fun _ _ => rfl) rfl
    refine ⟨this.1, fun t => ⟨fun j hj => (this.2 t).1 j (by omega), fun hno => (this.2 t).2 fun j hj => hno j (by omega)⟩⟩

theorem act_ext {a b : Act} (h1 : a.defers = b.defers) (h2 : ∀ t : Nat, a.tmps[t]? = b.tmps[t]?) : a = b := by
  obtain ⟨t1, d1⟩ := a
  obtain ⟨t2, d2⟩ := b
  simp only at h1 h2
  rw [h1, Array.ext_getElem? h2]

theorem anc_done {listed : Array Bool} (hd : ∀ k o, ops[k]? = some o → listed.getD k false = true → ∀ e ∈ o.after, Region.binds .any e = true → listed.getD e.on false = true) :
    ∀ (p : List Nat) (k j : Nat), (∀ o, ops[k]? = some o → ∀ e ∈ o.after, Region.binds .any e = true → listed.getD e.on false = true) → pathB ops k p j = true → listed.getD j false = true
  | [], k, j, hk, h => by
    obtain ⟨o, ho, e, he, hb, rfl⟩ := direct_spec h
    exact hk o ho e he hb
  | x :: r, k, j, hk, h => by
    simp only [pathB, Bool.and_eq_true] at h
    obtain ⟨o, ho, e, he, hb, rfl⟩ := direct_spec h.1
    have hx := hk o ho e he hb
    exact anc_done hd r e.on j (fun o' ho' e' he' hb' => hd e.on o' ho' hx e' he' hb') h.2

/-- an operation in the frame as it is, and in the lexical one -/
theorem frame_same (hg : GrowOk ops n) {D : Nat → Prop} {act vals : Nat → Value} {a : Act} {i : Nat} {o : Oper} (hf : IsFr ops a0 D act a) (hDn : ∀ j, D j → j < n) (hin : i < n) (hi : ops[i]? = some o)
    (hD : ∀ e ∈ o.after, Region.binds .any e = true → D e.on ∧ vals e.on = act e.on) :
    execOp a.eval o = execOp (fr ops a0 vals i).eval o ∧ Region.wanted o (yielded ops a.tmps) = wantedAt ops a0 vals i := by
  have := same_exec (ops := ops) (o := o) (a := a) (b := fr ops a0 vals i) (fun cs x => hg.sel i o cs x hi) fun t ht => hf.same (fr_isFr hg vals i (by omega)) t fun j hj => by
    by_cases hjn : j < n
    case neg => exact ⟨fun hd => absurd (hDn j hd) hjn, fun hd => absurd (show j < n by omega) hjn⟩
    obtain ⟨o', ho', e, he, hb, rfl⟩ := direct_spec (hg.looks i j o t hin hjn hi hj ht)
    rw [hi] at ho'; injection ho' with ho'; subst ho'
    exact ⟨fun _ => ⟨hg.ahead i o hin hi e he hb, (hD e he hb).2.symm⟩, fun _ => (hD e he hb).1⟩
  refine ⟨this.1, ?_⟩
  unfold wantedAt; rw [hi]; exact this.2

theorem countP_step {p q : Nat → Bool} : ∀ (l : List Nat) (i : Nat), l.Nodup → i ∈ l → (∀ j, j ≠ i → q j = p j) → p i = true → q i = false → l.countP q + 1 = l.countP p
  | [], _, _, h, _, _, _ => by simp at h
  | x :: r, i, hnd, h, hpq, hp, hq => by
    rw [List.nodup_cons] at hnd
    rcases List.mem_cons.1 h with rfl | h
    · rw [List.countP_cons_of_pos hp, List.countP_cons_of_neg (by simp [hq])]
      rw [List.countP_congr fun j hj => by rw [hpq j fun e => hnd.1 (e ▸ hj)]]
    · have ih := countP_step r i hnd.2 h hpq hp hq
      have hx : x ≠ i := fun e => hnd.1 (e ▸ h)
      rw [List.countP_cons, List.countP_cons, hpq x hx]
      omega

theorem grow_run {g : Nat} {Q' : Exit → Act → World → Prop} {Qh : Act → World → Prop} (hn : n ≤ ops.size) (hg : GrowOk ops n) (hp : ∀ k o, k < n → ops[k]? = some o → mk M k = none → plainB o = true) (hC : ∀ w w', C w → Below w.heap.size w w' → C w')
    (hheads : ∀ listed, HeadInv .any ops n listed → ∀ i, i < n → listed.getD i true = false → ∀ t ∈ Region.ready .any ops listed, t < n)
    (htail : ∀ listed, HeadInv .any ops n listed → (∀ k, k < n → listed.getD k false = true) → ∀ a w, Qh a w → wpAny P .any ops Q' g listed a w)
    (H : ∀ V : Nat → Value, (∀ k m, mk M k = some m → m.T (V k)) → ∃ vals, (∀ i o, i < n → ops[i]? = some o → LexAt P ops C M a0 vals i o) ∧ (∀ i m, i < n → mk M i = some m → wantedAt ops a0 vals i = true → vals i = V i) ∧
      ∀ w, C w → (∀ j, j < n → FV ops M a0 vals j w) → Qh (fr ops a0 vals n) w) :
    ∀ (fuel : Nat) (listed : Array Bool) (a : Act) (w : World) (act : Nat → Value) (wt : Nat → Bool), Inv P ops C M a0 n listed a w act wt →
      (List.range n).countP (fun j => !listed.getD j true) = fuel → wpAny P .any ops Q' (fuel + g) listed a w := by
  have dlt : ∀ {listed : Array Bool}, HeadInv .any ops n listed → ∀ k, listed.getD k false = true → k < n := by
    intro listed inv k hk
    have h1 := getD_done hk
    refine Nat.lt_of_not_le fun hge => ?_
    rcases Nat.lt_or_ge k ops.size with h | h
    · have := inv.tail k hge h
      rw [h1] at this; exact absurd this Bool.noConfusion
    · rw [Array.getD_eq_getD_getElem?, Array.getElem?_eq_none (by rw [inv.size]; omega)] at hk; exact absurd hk Bool.false_ne_true
  -- values that agree with what was done
  have pick : ∀ {listed : Array Bool} {a : Act} {w : World} {act : Nat → Value} {wt : Nat → Bool}, Inv P ops C M a0 n listed a w act wt → ∃ vals, (∀ i o, i < n → ops[i]? = some o → LexAt P ops C M a0 vals i o) ∧
      (∀ k, listed.getD k false = true → vals k = act k ∧ wantedAt ops a0 vals k = wt k) ∧ ∀ w, C w → (∀ j, j < n → FV ops M a0 vals j w) → Qh (fr ops a0 vals n) w := by
    intro listed a w act wt inv
    classical
    obtain ⟨vals, h1, h2, h3⟩ := H (fun k => match mk M k with
      | some m => if m.T (act k) then act k else m.any.choose
      | none => undef) (fun k m hm => by
        simp only [hm]
        split
        · assumption
        · exact m.any.choose_spec)
    refine ⟨vals, h1, inv.agree vals h1 fun k m hk hm hw hwt => ?_, h3⟩
    rw [h2 k m (dlt inv.head k hk) hm hw]
    simp only [hm]
    rw [if_pos (inv.fact k m hk hm hwt).1]
  have fin : ∀ {listed : Array Bool} {a : Act} {w : World} {act : Nat → Value} {wt : Nat → Bool}, Inv P ops C M a0 n listed a w act wt → (∀ k, k < n → listed.getD k false = true) → Qh a w := by
    intro listed a w act wt inv hall
    obtain ⟨vals, h1, h2, h3⟩ := pick inv
    have : a = fr ops a0 vals n := by
      refine act_ext (by rw [inv.frm.1, (fr_isFr hg vals n (Nat.le_refl _)).1]) fun t => ?_
      exact inv.frm.same (fr_isFr hg vals n (Nat.le_refl _)) t fun j hj => ⟨fun hd => ⟨dlt inv.head j hd, (h2 j hd).1.symm⟩, fun hd => hall j hd⟩
    rw [this]
    refine h3 w inv.c fun j hjn m hm hw => ?_
    have hd := hall j hjn
    rw [(h2 j hd).1]
    exact (inv.fact j m hd hm (by rw [← (h2 j hd).2]; exact hw)).2
  intro fuel
  induction fuel with
  | zero =>
    intro listed a w act wt inv hc
    have hz : ∀ j, j < n → listed.getD j false = true := fun j hj => done_or (fun hnd => by
      have := List.countP_eq_zero.1 hc j (by simpa using hj)
      simp [hnd] at this) (by rw [inv.head.size]; omega)
    rw [Nat.zero_add]
    exact htail listed inv.head hz a w (fin inv hz)
  | succ fuel ih =>
    intro listed a w act wt inv hc
    rw [show fuel + 1 + g = (fuel + g) + 1 by omega]
    obtain ⟨u, hu, hun⟩ : ∃ u, u < n ∧ listed.getD u true = false := by
      have : 0 < (List.range n).countP (fun j => !listed.getD j true) := by omega
      obtain ⟨u, hu1, hu2⟩ := List.countP_pos_iff.1 this
      exact ⟨u, by simpa using hu1, by simpa using hu2⟩
    refine ⟨fun hr => ?_, fun i hi => ?_⟩
    · have := getD_done (ready_ne hn hg inv.head.size hr u hu)
      rw [hun] at this; exact absurd this Bool.false_ne_true
    have hin : i < n := hheads listed inv.head u hu hun i hi
    obtain ⟨h0, o, ho, hdep⟩ := mem_ready.1 hi
    have hlt : i < ops.size := (Array.getElem?_eq_some_iff.1 ho).1
    have hnd : ∀ j, listed.getD j false = true → j ≠ i := fun j hj e => by
      subst e
      have := getD_done hj
      rw [h0] at this; exact absurd this Bool.false_ne_true
    have hset : ∀ j, ((listed.setIfInBounds i true).getD j false = true) ↔ (listed.getD j false = true ∨ j = i) := fun j => getD_set (by rw [inv.head.size]; exact hlt)
    have hcnt : (List.range n).countP (fun j => !(listed.setIfInBounds i true).getD j true) = fuel := by
      have := countP_step (p := fun j => !listed.getD j true) (q := fun j => !(listed.setIfInBounds i true).getD j true) (List.range n) i List.nodup_range (by simpa using hin) (fun j hj => by
        simp only [getD_set_ne true (Ne.symm hj)]) (by simp [h0]) (by simp [show i < listed.size by rw [inv.head.size]; exact hlt])
      omega
    -- one step on
    have next : ∀ (v : Value) (b : Bool) (w' : World), C w' → (∀ k m, listed.getD k false = true → mk M k = some m → wt k = true → m.S (act k) w') → (∀ m, mk M i = some m → b = true → m.T v ∧ m.S v w') →
        (∀ vals, (∀ i o, i < n → ops[i]? = some o → LexAt P ops C M a0 vals i o) → wantedAt ops a0 vals i = b → (∀ m, mk M i = some m → b = true → vals i = v) → execOp a.eval o = execOp (fr ops a0 vals i).eval o → vals i = v) →
        Region.wanted o (yielded ops a.tmps) = b → wpAny P .any ops Q' (fuel + g) (listed.setIfInBounds i true) (a.put o.dst v) w' := by
      intro v b w' hcw hold hnew hvals hb
      refine ih _ _ _ (fun j => if j = i then v else act j) (fun j => if j = i then b else wt j) ⟨inv.head.set hi hin, hcw, ?_, ?_, ?_⟩ hcnt
      · have := inv.frm.put (vals' := fun j => if j = i then v else act j) (i := i) (v := v) (fun j hj t ht => hg.apart i j t hin (dlt inv.head j hj) (hnd j hj) ht) (fun j hj => if_neg (hnd j hj)) (if_pos rfl)
        rw [ho] at this
        refine ⟨this.1, fun t => ⟨fun j hj => (this.2 t).1 j ((hset j).1 hj), fun hno => (this.2 t).2 fun j hj => hno j ((hset j).2 hj)⟩⟩
      · intro vals hlex hag
        have hold2 := inv.agree vals hlex (fun k m hk hm hw hwt => by
          have := hag k m ((hset k).2 (.inl hk)) hm hw (by simp only [if_neg (hnd k hk)]; exact hwt)
          simpa only [if_neg (hnd k hk)] using this)
        obtain ⟨he1, he2⟩ := frame_same hg inv.frm (dlt inv.head) hin ho (vals := vals) (fun e he hb => ⟨hdep e he hb, (hold2 e.on (hdep e he hb)).1⟩)
        have hwb : wantedAt ops a0 vals i = b := by rw [← he2]; exact hb
        intro k hk
        rcases (hset k).1 hk with hk | rfl
        · simp only [if_neg (hnd k hk)]; exact hold2 k hk
        · simp only [if_true]
          exact ⟨hvals vals hlex hwb (fun m hm hbt => by
            have := hag k m ((hset k).2 (.inr rfl)) hm (by rw [hwb]; exact hbt) (by simp only [if_true]; exact hbt)
            simpa only [if_true] using this) he1, hwb⟩
      · intro k m hk hm hwt
        rcases (hset k).1 hk with hk | rfl
        · simp only [if_neg (hnd k hk)] at hwt ⊢
          exact ⟨(inv.fact k m hk hm hwt).1, hold k m hk hm hwt⟩
        · simp only [if_true] at hwt ⊢
          exact hnew m hm hwt
    obtain ⟨vals, hlex, hag, -⟩ := pick inv
    obtain ⟨he1, he2⟩ := frame_same hg inv.frm (dlt inv.head) hin ho (vals := vals) (fun e he hb => ⟨hdep e he hb, (hag e.on (hdep e he hb)).1⟩)
    have hL := hlex i o hin ho
    unfold wpOp
    simp only [ho]
    cases hw : Region.wanted o (yielded ops a.tmps) with
    | false =>
      rw [if_neg Bool.false_ne_true]
      exact next undef false w inv.c (fun k m hk hm hwt => (inv.fact k m hk hm hwt).2) (fun _ _ h => absurd h Bool.false_ne_true) (fun vals' hlex' hwb _ _ => (hlex' i o hin ho).no hwb) hw
    | true =>
      rw [if_pos rfl]
      refine .inl ?_
      have hwl : wantedAt ops a0 vals i = true := by rw [← he2]; exact hw
      cases hm : mk M i with
      | none =>
        have hq := hL.plain hwl hm w inv.c
        unfold Oper.quietAt at hq
        rw [← he1] at hq
        unfold Oper.wp
        have nx := fun (hu : (execOp a.eval o).run P w = .ok (.value (vals i)) w ∨ ((execOp a.eval o).run P w = .ok .skip w ∧ vals i = undef)) => next (vals i) true w inv.c (fun k m hk hm hwt => (inv.fact k m hk hm hwt).2) (fun m hm' => by rw [hm] at hm'; exact absurd hm' (by simp)) (fun vals' hlex' hwb _ hex => by
          have hq' := (hlex' i o hin ho).plain hwb hm w inv.c
          unfold Oper.quietAt at hq'
          rw [← hex] at hq'
          rcases hu with hu | ⟨hu, hu2⟩
          · rw [hu] at hq'; exact hq'.2.symm
          · rw [hu] at hq'; rw [hu2]; exact hq'.2) hw
        generalize hr : (execOp a.eval o).run P w = res at hq nx ⊢
        cases res with
        | ok nn w' =>
          cases nn <;> simp only [Oper.quietUpon] at hq
          case value u =>
            obtain ⟨rfl, rfl⟩ := hq
            exact nx (.inl rfl)
          case skip =>
            obtain ⟨rfl, hu⟩ := hq
            have := nx (.inr ⟨rfl, hu⟩)
            rw [hu] at this; exact this
          case enter f args => exact absurd hr fun hr => plain_no_enter (hp i o hin ho hm) hr
        | halt x w' => simp only [Oper.quietUpon] at hq
      | some m =>
        have hmk := hL.make hwl m hm w inv.c (fun j hj => by
          obtain ⟨p, hpth⟩ := hj
          have hjd := anc_done inv.head.closed p i j (fun o' ho' e he hb => by rw [ho] at ho'; injection ho' with ho'; subst ho'; exact hdep e he hb) hpth
          intro m' hm' hw'
          rw [(hag j hjd).1]
          exact (inv.fact j m' hjd hm' (by rw [← (hag j hjd).2]; exact hw')).2)
        rw [← he1] at hmk
        have nx : ∀ v w', m.T v → m.S v w' → Below w.heap.size w w' → wpAny P .any ops Q' (fuel + g) (listed.setIfInBounds i true) (a.put o.dst v) w' := fun v w' h1 h2 h3 =>
          next v true w' (hC w w' inv.c h3) (fun k m' hk hm' hwt => m'.mono _ _ _ (inv.fact k m' hk hm' hwt).2 h3) (fun m' hm' _ => by rw [hm] at hm'; injection hm' with hm'; subst hm'; exact ⟨h1, h2⟩) (fun vals' _ _ hv _ => hv m hm rfl) hw
        unfold Oper.wp
        generalize (execOp a.eval o).run P w = res at hmk ⊢
        cases res with
        | ok nn w' =>
          cases nn <;> simp only [makeUpon] at hmk
          case value u => exact nx u w' hmk.1 hmk.2.1 hmk.2.2
          case enter f args => exact hmk.mono fun e w'' ⟨v, he, h1, h2, h3⟩ => by subst he; exact nx v w'' h1 h2 h3
        | halt x w' => simp only [makeUpon] at hmk

theorem plainsB_ok (hn : n ≤ ops.size) (h : plainsB M ops n = true) : ∀ k o, k < n → ops[k]? = some o → mk M k = none → plainB o = true := by
  intro k o hlt hk hm
  have := List.all_eq_true.1 h k (by simpa using hlt)
  simpa [hm, hk] using this

theorem rep_false {n k : Nat} (h : (Array.replicate n false).getD k false = true) : False := by
  simp only [Array.getD_eq_getD_getElem?, Array.getElem?_replicate] at h
  split at h <;> simp at h

theorem head_rep : HeadInv .any ops n (Array.replicate ops.size false) :=
  ⟨by simp, fun j oj _ hl => (rep_false hl).elim, fun t _ ht => by simp [ht]⟩

theorem count_rep (hn : n ≤ ops.size) : (List.range n).countP (fun j => !(Array.replicate ops.size false).getD j true) = n := by
  have : (List.range n).countP (fun j => !(Array.replicate ops.size false).getD j true) = (List.range n).length := List.countP_eq_length.2 fun j hj => by
    have : j < n := by simpa using hj
    simp [show j < ops.size by omega]
  rw [this]; simp

theorem head_all {listed listed' : Array Bool} (h1 : HeadInv .any ops n listed) (h2 : HeadInv .any ops n listed') (d1 : ∀ k, k < n → listed.getD k false = true) (d2 : ∀ k, k < n → listed'.getD k false = true) : listed = listed' := by
  refine Array.ext (by rw [h1.size, h2.size]) fun i hi hi' => ?_
  by_cases hin : i < n
  · have a1 := d1 i hin
    have a2 := d2 i hin
    simp only [Array.getD_eq_getD_getElem?, Array.getElem?_eq_getElem hi, Array.getElem?_eq_getElem hi', Option.getD_some] at a1 a2
    rw [a1, a2]
  · have a1 := h1.tail i (by omega) (by rw [← h1.size]; exact hi)
    have a2 := h2.tail i (by omega) (by rw [← h1.size]; exact hi)
    simp only [Array.getD_eq_getD_getElem?, Array.getElem?_eq_getElem hi, Array.getElem?_eq_getElem hi', Option.getD_some] at a1 a2
    rw [a1, a2]

theorem wp_region_grow {id : Nat} {Q : Exit → Act → World → Prop} {a : Act} {w : World} {l : List Oper} (M : List (Nat × Maker)) (hm : P.follows .mixedOrders = true) (hB : growB l.toArray l.toArray.size = true) (hp : plainsB M l.toArray l.toArray.size = true)
    (h : wpGrow P l.toArray (fun w' => ∃ x : After w, w' = x.w) M (fun a' F => ∀ w', (∃ x : After w, w' = x.w) → (∀ j, F j w') → Q .normal a' w') l 0 a (fun _ _ => True)) : (Code.region id l.toArray true).wp P Q a w := by
  have hg := growB_ok hB
  refine wp_region_any hm ?_
  have R := grow_run (g := 0) (n := l.toArray.size) (Q' := Q) (Qh := fun a w => Q .normal a w) (C := fun w' => ∃ x : After w, w' = x.w) (M := M) (a0 := a) (Nat.le_refl _) hg (plainsB_ok (Nat.le_refl _) hp) (fun w1 w2 hx hb => by obtain ⟨x, rfl⟩ := hx; exact ⟨⟨w2, below_trans x.2 hb⟩, rfl⟩)
    (fun listed inv i hi hun t ht => by obtain ⟨_, o, ho, _⟩ := mem_ready.1 ht; exact (Array.getElem?_eq_some_iff.1 ho).1)
    (fun listed inv hall a w hq => by
      refine ⟨?_, hq⟩
      cases hr : Region.ready .any l.toArray listed with
      | nil => rfl
      | cons x xs =>
        have hx : x ∈ Region.ready .any l.toArray listed := by rw [hr]; simp
        obtain ⟨h0, o, ho, _⟩ := mem_ready.1 hx
        have := getD_done (hall x (Array.getElem?_eq_some_iff.1 ho).1)
        rw [h0] at this; exact absurd this Bool.false_ne_true)
    (fun V hV => by
      obtain ⟨vals, -, h1, h2, F', h3, h4⟩ := grow_vals (P := P) (C := fun w' => ∃ x : After w, w' = x.w) (Nat.le_refl _) hg V hV l 0 (fun _ => undef) _ (by simp) (fun j _ => by simp) (fun _ _ _ _ => trivial) (fun _ _ _ => trivial) h
      refine ⟨vals, fun i o hi ho => h1 i o (Nat.zero_le _) hi ho, fun i m hi hm hw => h2 i m (Nat.zero_le _) hi hm hw, fun w' hc hf => ?_⟩
      rw [Nat.zero_add] at h4
      exact h4 w' hc (h3 w' hf))
    l.toArray.size _ a _ (fun _ => undef) (fun _ => false) ⟨head_rep, ⟨⟨_, (Below.refl _ w).drew⟩, rfl⟩, ⟨rfl, fun t => ⟨fun j hj => (rep_false hj).elim, fun _ => rfl⟩⟩, fun vals _ _ k hd => (rep_false hd).elim, fun k m hd => (rep_false hd).elim⟩ (count_rep (Nat.le_refl _))
  exact R

/-- the array in which the first n are done -/
def headArr (n size : Nat) : Array Bool := ((List.range size).map fun j => decide (j < n)).toArray

def tailB (ops : Array Oper) (n : Nat) : Bool := decide (n < ops.size) && Region.sinkB .any ops n && Region.chainB .any ops n && Region.seqB .any ops (ops.size - n) n (headArr n ops.size)

theorem headArr_get (n size j : Nat) (d : Bool) : (headArr n size).getD j d = if j < size then decide (j < n) else d := by
  unfold headArr
  by_cases h : j < size <;> simp [h]

/-- A HEAD OF n OPERATIONS IN WHATEVER ORDER, AND A FORCED TAIL -/
theorem wp_region_grow_tail {id : Nat} {Q : Exit → Act → World → Prop} {a : Act} {w : World} {l : List Oper} (n : Nat) (M : List (Nat × Maker)) (hm : P.follows .mixedOrders = true) (hB : growB l.toArray n = true) (hp : plainsB M l.toArray n = true) (hT : tailB l.toArray n = true)
    (h : wpGrow P l.toArray (fun w' => ∃ x : After w, w' = x.w) M (fun a' F => ∀ w', (∃ x : After w, w' = x.w) → (∀ j, F j w') → wpList P l.toArray Q (l.drop n) a' w') (l.take n) 0 a (fun _ _ => True)) : (Code.region id l.toArray true).wp P Q a w := by
  have hg := growB_ok hB
  unfold tailB at hT
  simp only [Bool.and_eq_true, decide_eq_true_eq] at hT
  obtain ⟨⟨⟨hn, hs⟩, hc⟩, hq⟩ := hT
  have hn' : n < l.length := by simpa using hn
  have hdl : (l.drop n).length = l.toArray.size - n := by rw [List.length_drop, List.size_toArray]
  have hclosed : ∀ j oj, l.toArray[j]? = some oj → (headArr n l.toArray.size).getD j false = true → ∀ e ∈ oj.after, Region.binds .any e = true → (headArr n l.toArray.size).getD e.on false = true := fun j oj hj hd e he hb => by
    rw [headArr_get] at hd ⊢
    split at hd
    · have hjn : j < n := by simpa using hd
      have := hg.ahead j oj hjn hj e he hb
      rw [if_pos (by omega)]; simp; omega
    · exact absurd hd Bool.false_ne_true
  have hhead : HeadInv .any l.toArray n (headArr n l.toArray.size) := ⟨by simp [headArr], hclosed, fun t ht htl => by rw [headArr_get, if_pos htl]; simp; omega⟩
  have hall : ∀ k, k < n → (headArr n l.toArray.size).getD k false = true := fun k hk => by rw [headArr_get, if_pos (by omega)]; simp; omega
  refine wp_region_any hm ?_
  have R := grow_run (g := l.toArray.size - n) (n := n) (Q' := Q) (Qh := fun a w => wpList P l.toArray Q (l.drop n) a w) (C := fun w' => ∃ x : After w, w' = x.w) (M := M) (a0 := a) (Nat.le_of_lt hn) hg (plainsB_ok (Nat.le_of_lt hn) hp) (fun w1 w2 hx hb => by obtain ⟨x, rfl⟩ := hx; exact ⟨⟨w2, below_trans x.2 hb⟩, rfl⟩)
    (fun listed inv i hi hun t ht => Nat.lt_of_not_le fun hge => tail_waits hs hc hn inv _ i rfl hi hun t hge ht)
    (fun listed inv hal a w hw => by
      rw [head_all inv hhead hal hall]
      have := wpAny_of_seq (md := .any) (Q' := Q) (l.drop n) n (headArr n l.toArray.size) a w (fun j => by simp [List.getElem?_drop]) (by rw [hdl]; exact hq) hw
      rwa [hdl] at this)
    (fun V hV => by
      obtain ⟨vals, -, h1, h2, F', h3, h4⟩ := grow_vals (P := P) (C := fun w' => ∃ x : After w, w' = x.w) (Nat.le_of_lt hn) hg V hV (l.take n) 0 (fun _ => undef) _ (by simp; omega) (fun j hj => by
        have : j < n := by simp at hj; omega
        simp [List.getElem?_take, this]) (fun _ _ _ _ => trivial) (fun _ _ _ => trivial) h
      refine ⟨vals, fun i o hi ho => h1 i o (Nat.zero_le _) hi ho, fun i m hi hm hw => h2 i m (Nat.zero_le _) hi hm hw, fun w' hc hf => ?_⟩
      rw [Nat.zero_add, show (l.take n).length = n by rw [List.length_take]; omega] at h4
      exact h4 w' hc (h3 w' hf))
    n _ a _ (fun _ => undef) (fun _ => false) ⟨head_rep, ⟨⟨_, (Below.refl _ w).drew⟩, rfl⟩, ⟨rfl, fun t => ⟨fun j hj => (rep_false hj).elim, fun _ => rfl⟩⟩, fun vals _ _ k hd => (rep_false hd).elim, fun k m hd => (rep_false hd).elim⟩ (count_rep (Nat.le_of_lt hn))
  rw [show n + (l.toArray.size - n) = l.toArray.size by omega] at R
  exact R
end
attribute [irreducible] wpGrow
end Go.Proofs.Ythbpoagkfpalfaa
