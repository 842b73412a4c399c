/-
  LEX: the words of a text, as a function of its bytes; what is true of them.
-/
namespace Go.Proofs.YtplndghcileghaaDoor

def blankB (c : Int) : Bool := c == 9 || c == 10 || c == 32
def letterB (c : Int) : Bool := (decide (97 ≤ c) && decide (c ≤ 122)) || (decide (65 ≤ c) && decide (c ≤ 90))
def digitB (c : Int) : Bool := decide (48 ≤ c) && decide (c ≤ 57)
def inNameB (c : Int) : Bool := letterB c || digitB c || c == 95
def signL : List Int := [40, 41, 123, 125, 44, 59, 46, 61, 43, 45, 42, 60]
def signB (c : Int) : Bool := signL.contains c
def numV (l : List UInt8) : Nat := l.foldl (fun a b => a * 10 + (b.toNat - 48)) 0

def blankU (b : UInt8) : Bool := blankB (b.toNat : Int)
def letterU (b : UInt8) : Bool := letterB (b.toNat : Int)
def digitU (b : UInt8) : Bool := digitB (b.toNat : Int)
def inNameU (b : UInt8) : Bool := inNameB (b.toNat : Int)
def signU (b : UInt8) : Bool := signB (b.toNat : Int)

/-- a word: its kind, its text, its number, its place -/
structure Tok where
  k : Int
  t : List UInt8
  n : Int
  p : Nat
deriving DecidableEq

def behindP : List UInt8 → Bool
  | [] => true
  | c :: _ => !inNameU c
def numOk (w r : List UInt8) : Bool := decide (w.length ≤ 10) && !(decide (1 < w.length) && w.head? == some 48) && decide (numV w < 4294967296) && behindP r

def firstP (l : List UInt8) : Option (Int × Nat × Int) :=
  match l with
  | [] => none
  | c :: r =>
    if letterU c then
      if ((c :: r).takeWhile inNameU).length ≤ 12 then some (1, ((c :: r).takeWhile inNameU).length, 0) else none
    else if digitU c then
      if numOk ((c :: r).takeWhile digitU) ((c :: r).dropWhile digitU) then some (2, ((c :: r).takeWhile digitU).length, (numV ((c :: r).takeWhile digitU) : Int)) else none
    else if signU c then some (3, if c == 61 && r.head? == some 61 then 2 else 1, 0)
    else none

theorem inName_of_letter {c : UInt8} (h : letterU c = true) : inNameU c = true := by
  unfold letterU at h; unfold inNameU inNameB; rw [h]; rfl
theorem inName_of_digit {c : UInt8} (h : digitU c = true) : inNameU c = true := by
  unfold digitU at h; unfold inNameU inNameB; rw [h]; simp

theorem tw_len {P : UInt8 → Bool} {c : UInt8} (r : List UInt8) (h : P c = true) : 1 ≤ ((c :: r).takeWhile P).length := by
  rw [List.takeWhile_cons, if_pos h]; simp

theorem firstP_len {l : List UInt8} {k : Int} {n : Nat} {v : Int} (h : firstP l = some (k, n, v)) : 1 ≤ n ∧ n ≤ l.length := by
  unfold firstP at h
  cases l with
  | nil => cases h
  | cons c r =>
    simp only at h
    split at h
    · rename_i hl
      split at h
      · injection h with h; injection h with _ h; injection h with h _; subst h
        exact ⟨tw_len r (inName_of_letter hl), (List.takeWhile_sublist _).length_le⟩
      · cases h
    · split at h
      · rename_i hd
        split at h
        · injection h with h; injection h with _ h; injection h with h _; subst h
          exact ⟨tw_len r hd, (List.takeWhile_sublist _).length_le⟩
        · cases h
      · split at h
        · injection h with h; injection h with _ h; injection h with h _; subst h
          split
          · rename_i he
            cases r with
            | nil => simp at he
            | cons d r => simp
          · simp
        · cases h

def wordsP (p : Nat) (l : List UInt8) : Option (List Tok) :=
  match l with
  | [] => some []
  | c :: r =>
    if blankU c then wordsP (p + 1) r
    else match h : firstP (c :: r) with
      | none => none
      | some (k, n, v) => (wordsP (p + n) ((c :: r).drop n)).map (⟨k, (c :: r).take n, v, p⟩ :: ·)
termination_by l.length
decreasing_by
  all_goals simp_wf
  have := firstP_len h
  omega

theorem wordsP_nil (p : Nat) : wordsP p [] = some [] := by rw [wordsP]
theorem wordsP_blank (p : Nat) (c : UInt8) (r : List UInt8) (h : blankU c = true) : wordsP p (c :: r) = wordsP (p + 1) r := by rw [wordsP]; rw [if_pos h]
theorem wordsP_none (p : Nat) (c : UInt8) (r : List UInt8) (h : blankU c = false) (hf : firstP (c :: r) = none) : wordsP p (c :: r) = none := by
  rw [wordsP]; rw [if_neg (by rw [h]; decide)]
  split
  · rfl
  · rename_i he; rw [hf] at he; cases he
theorem wordsP_word (p : Nat) (c : UInt8) (r : List UInt8) (h : blankU c = false) {k : Int} {n : Nat} {v : Int} (hf : firstP (c :: r) = some (k, n, v)) :
    wordsP p (c :: r) = (wordsP (p + n) ((c :: r).drop n)).map (⟨k, (c :: r).take n, v, p⟩ :: ·) := by
  rw [wordsP]; rw [if_neg (by rw [h]; decide)]
  split
  · rename_i he; rw [hf] at he; cases he
  · rename_i he; rw [hf] at he; injection he with he; injection he with h1 he; injection he with h2 h3; subst h1 h2 h3; rfl

/-- a text's words by induction -/
theorem words_ind {motive : Nat → List UInt8 → Prop} (nil : ∀ p, motive p [])
    (blank : ∀ p c r, blankU c = true → motive (p + 1) r → motive p (c :: r))
    (none : ∀ p c r, blankU c = false → firstP (c :: r) = none → motive p (c :: r))
    (word : ∀ p c r k n v, blankU c = false → firstP (c :: r) = some (k, n, v) → 1 ≤ n → n ≤ (c :: r).length → motive (p + n) ((c :: r).drop n) → motive p (c :: r)) :
    ∀ m p l, l.length ≤ m → motive p l
  | m, p, [], _ => nil p
  | 0, p, c :: r, h => absurd h (by simp)
  | m + 1, p, c :: r, h => by
    cases hb : blankU c
    · cases hf : firstP (c :: r) with
      | none => exact none p c r hb hf
      | some q =>
        obtain ⟨k, n, v⟩ := q
        have hl := firstP_len hf
        exact word p c r k n v hb hf hl.1 hl.2 (words_ind nil blank none word m _ _ (by rw [List.length_drop]; simp at h ⊢; omega))
    · exact blank p c r hb (words_ind nil blank none word m _ _ (by simpa using h))

theorem words_skip (p : Nat) (l : List UInt8) : wordsP p l = wordsP (p + (l.takeWhile blankU).length) (l.dropWhile blankU) := by
  induction l generalizing p with
  | nil => simp
  | cons c r ih =>
    cases hb : blankU c
    · simp [List.takeWhile_cons, List.dropWhile_cons, hb]
    · rw [wordsP_blank _ _ _ hb, ih]
      simp only [List.takeWhile_cons, List.dropWhile_cons, hb, if_true, List.length_cons]
      congr 1; omega

theorem all_u8 {P : UInt8 → Prop} (h : ∀ n : Fin 256, P (UInt8.ofNat n.val)) (c : UInt8) : P c := by
  have := h ⟨c.toNat, c.toNat_lt⟩
  simpa using this

theorem blank_not : ∀ c : UInt8, blankU c = true → inNameU c = false ∧ digitU c = false ∧ letterU c = false ∧ signU c = false ∧ (c == 61) = false := by
  intro c
  refine all_u8 (P := fun c => blankU c = true → inNameU c = false ∧ digitU c = false ∧ letterU c = false ∧ signU c = false ∧ (c == 61) = false) ?_ c
  decide +kernel

theorem firstP_blank {c : UInt8} {r : List UInt8} (h : blankU c = true) : firstP (c :: r) = none := by
  obtain ⟨_, h2, h3, h4, _⟩ := blank_not c h
  unfold firstP; simp [h2, h3, h4]

theorem tw_stop {P : UInt8 → Bool} {x : UInt8} (hx : P x = false) (b : List UInt8) : ∀ a : List UInt8, (a ++ x :: b).takeWhile P = a.takeWhile P
  | [] => by simp [List.takeWhile_cons, hx]
  | c :: a => by
    rw [List.cons_append, List.takeWhile_cons, List.takeWhile_cons, tw_stop hx b a]
theorem dw_stop {P : UInt8 → Bool} {x : UInt8} (hx : P x = false) (b : List UInt8) : ∀ a : List UInt8, (a ++ x :: b).dropWhile P = a.dropWhile P ++ x :: b
  | [] => by simp [List.dropWhile_cons, hx]
  | c :: a => by
    rw [List.cons_append, List.dropWhile_cons, List.dropWhile_cons, dw_stop hx b a]
    split <;> rfl

/-- a blank behind a text ends its first word -/
theorem firstP_stop {x : UInt8} (hx : blankU x = true) (b : List UInt8) (c : UInt8) (r : List UInt8) : firstP ((c :: r) ++ x :: b) = firstP (c :: r) := by
  obtain ⟨h1, h2, h3, h4, h5⟩ := blank_not x hx
  have e1 := tw_stop h1 b (c :: r)
  have e2 := tw_stop h2 b (c :: r)
  have e3 := dw_stop h2 b (c :: r)
  rw [List.cons_append] at e1 e2 e3 ⊢
  unfold firstP
  simp only [e1, e2, e3]
  have e4 : numOk ((c :: r).takeWhile digitU) ((c :: r).dropWhile digitU ++ x :: b) = numOk ((c :: r).takeWhile digitU) ((c :: r).dropWhile digitU) := by
    unfold numOk
    congr 1
    cases (c :: r).dropWhile digitU with
    | nil => simp [behindP, h1]
    | cons d q => rfl
  rw [e4]
  have e5 : ((r ++ x :: b).head? == some 61) = (r.head? == some 61) := by
    cases r with
    | nil => simpa using h5
    | cons d q => rfl
  rw [e5]

/-- words of two texts with a blank between -/
theorem words_both {x : UInt8} (hx : blankU x = true) (b : List UInt8) (a : List UInt8) (p : Nat) :
    wordsP p (a ++ x :: b) = (match wordsP p a with | none => none | some ta => (wordsP (p + a.length + 1) b).map (ta ++ ·)) := by
  refine words_ind (motive := fun p a => wordsP p (a ++ x :: b) = (match wordsP p a with | none => none | some ta => (wordsP (p + a.length + 1) b).map (ta ++ ·))) ?_ ?_ ?_ ?_ a.length p a (Nat.le_refl _)
  · intro p
    rw [wordsP_nil, List.nil_append, wordsP_blank _ _ _ hx]
    simp
  · intro p c r hc ih
    rw [List.cons_append, wordsP_blank _ _ _ hc, wordsP_blank _ _ _ hc, ih]
    rw [show p + 1 + r.length + 1 = p + (c :: r).length + 1 from by simp; omega]
  · intro p c r hc hf
    have := firstP_stop hx b c r
    rw [List.cons_append] at this ⊢
    rw [wordsP_none _ _ _ hc (this.trans hf), wordsP_none _ _ _ hc hf]
  · intro p c r k n v hc hf h1 h2 ih
    have := firstP_stop hx b c r
    rw [List.cons_append] at this ⊢
    rw [wordsP_word _ _ _ hc (this.trans hf), wordsP_word _ _ _ hc hf]
    rw [← List.cons_append, List.drop_append_of_le_length h2, List.take_append_of_le_length h2, ih]
    rw [show p + n + ((c :: r).drop n).length + 1 = p + (c :: r).length + 1 from by rw [List.length_drop]; omega]
    cases wordsP (p + n) ((c :: r).drop n) with
    | none => rfl
    | some ta => 
      cases wordsP (p + (c :: r).length + 1) b <;> rfl

def shiftT (d : Nat) (t : Tok) : Tok := ⟨t.k, t.t, t.n, t.p + d⟩
theorem words_shift (d : Nat) (p : Nat) (l : List UInt8) : wordsP (p + d) l = (wordsP p l).map (List.map (shiftT d)) := by
  refine words_ind (motive := fun p l => wordsP (p + d) l = (wordsP p l).map (List.map (shiftT d))) ?_ ?_ ?_ ?_ l.length p l (Nat.le_refl _)
  · intro p; rw [wordsP_nil, wordsP_nil]; rfl
  · intro p c r hc ih
    rw [wordsP_blank _ _ _ hc, wordsP_blank _ _ _ hc, ← ih]; congr 1; omega
  · intro p c r hc hf
    rw [wordsP_none _ _ _ hc hf, wordsP_none _ _ _ hc hf]; rfl
  · intro p c r k n v hc hf h1 h2 ih
    rw [wordsP_word _ _ _ hc hf, wordsP_word _ _ _ hc hf]
    rw [show p + d + n = p + n + d from by omega, ih]
    cases wordsP (p + n) ((c :: r).drop n) <;> rfl

/-- what is true of a word, wherever it stands -/
def Good (t : Tok) : Prop := t.t ≠ [] ∧ (∀ c r, t.t = c :: r → blankU c = false) ∧ firstP t.t = some (t.k, t.t.length, t.n) ∧ 0 ≤ t.n ∧ t.n < 4294967296 ∧ (t.k ≠ 2 → t.n = 0)

theorem tw_take {P : UInt8 → Bool} : ∀ l : List UInt8, (l.take (l.takeWhile P).length) = l.takeWhile P
  | [] => rfl
  | c :: r => by
    rw [List.takeWhile_cons]
    split
    · simp [tw_take r]
    · simp
theorem tw_drop {P : UInt8 → Bool} : ∀ l : List UInt8, (l.drop (l.takeWhile P).length) = l.dropWhile P
  | [] => rfl
  | c :: r => by
    rw [List.takeWhile_cons, List.dropWhile_cons]
    split
    · simp [tw_drop r]
    · simp
theorem tw_tw {P : UInt8 → Bool} : ∀ l : List UInt8, (l.takeWhile P).takeWhile P = l.takeWhile P
  | [] => rfl
  | c :: r => by
    rw [List.takeWhile_cons]
    split
    · rename_i h; rw [List.takeWhile_cons, if_pos h, tw_tw r]
    · simp
theorem dw_tw {P : UInt8 → Bool} : ∀ l : List UInt8, (l.takeWhile P).dropWhile P = []
  | [] => rfl
  | c :: r => by
    rw [List.takeWhile_cons]
    split
    · rename_i h; rw [List.dropWhile_cons, if_pos h, dw_tw r]
    · simp

/-- a word alone is that word -/
theorem firstP_alone {l : List UInt8} {k : Int} {n : Nat} {v : Int} (h : firstP l = some (k, n, v)) : firstP (l.take n) = some (k, n, v) ∧ 0 ≤ v ∧ v < 4294967296 ∧ (k ≠ 2 → v = 0) := by
  unfold firstP at h
  cases l with
  | nil => cases h
  | cons c r =>
    simp only at h
    split at h
    · rename_i hl
      split at h
      · rename_i hn
        injection h with h; injection h with h0 h; injection h with h h1; subst h h0 h1
        refine ⟨?_, by omega, by omega, fun _ => rfl⟩
        rw [tw_take]
        have e := tw_tw (P := inNameU) (c :: r)
        rw [List.takeWhile_cons, if_pos (inName_of_letter hl)] at e hn ⊢
        unfold firstP
        simp only [e, hl, if_true, hn]
      · cases h
    · rename_i hl
      split at h
      · rename_i hd
        split at h
        · rename_i hn
          injection h with h; injection h with h0 h; injection h with h h1; subst h h0 h1
          have hlt : numV ((c :: r).takeWhile digitU) < 4294967296 := by
            unfold numOk at hn; simp only [Bool.and_eq_true, decide_eq_true_eq] at hn; exact hn.1.2
          refine ⟨?_, by omega, by omega, fun h => absurd rfl h⟩
          rw [tw_take]
          have e := tw_tw (P := digitU) (c :: r)
          have e2 := dw_tw (P := digitU) (c :: r)
          have hn2 : numOk ((c :: r).takeWhile digitU) [] = true := by
            unfold numOk at hn ⊢
            simp only [Bool.and_eq_true] at hn
            simp only [Bool.and_eq_true]
            exact ⟨hn.1, rfl⟩
          rw [List.takeWhile_cons, if_pos hd] at e e2 hn2 ⊢
          unfold firstP
          simp only [e, e2, hl, hd, if_true, hn2]
          simp
        · cases h
      · rename_i hd
        split at h
        · rename_i hs
          injection h with h; injection h with h0 h; injection h with h h1; subst h h0 h1
          refine ⟨?_, by omega, by omega, fun _ => rfl⟩
          have hl' : letterU c = false := by simpa using hl
          have hd' : digitU c = false := by simpa using hd
          cases r with
          | nil => simp [firstP, hl', hd', hs]
          | cons d q =>
            cases he : (c == 61 && (d :: q).head? == some 61)
            · simp [firstP, hl', hd', hs]
            · have he' : c = 61 ∧ d = 61 := by simpa using he
              obtain ⟨rfl, rfl⟩ := he'
              simp [firstP, hl', hd', hs]
        · cases h

theorem words_good (p : Nat) (l : List UInt8) : ∀ ts, wordsP p l = some ts → ∀ t ∈ ts, Good t := by
  refine words_ind (motive := fun p l => ∀ ts, wordsP p l = some ts → ∀ t ∈ ts, Good t) ?_ ?_ ?_ ?_ l.length p l (Nat.le_refl _)
  · intro p ts h; rw [wordsP_nil] at h; injection h with h; subst h; intro t ht; cases ht
  · intro p c r hc ih ts h; rw [wordsP_blank _ _ _ hc] at h; exact ih ts h
  · intro p c r hc hf ts h; rw [wordsP_none _ _ _ hc hf] at h; cases h
  · intro p c r k n v hc hf h1 h2 ih ts h t ht
    rw [wordsP_word _ _ _ hc hf] at h
    cases hq : wordsP (p + n) ((c :: r).drop n) with
    | none => rw [hq] at h; cases h
    | some tq =>
      rw [hq] at h
      injection h with h
      subst h
      rcases List.mem_cons.1 ht with rfl | ht
      · obtain ⟨g1, g2, g3, g4⟩ := firstP_alone hf
        have hl : ((c :: r).take n).length = n := by rw [List.length_take]; omega
        refine ⟨?_, ?_, ?_, g2, g3, g4⟩
        · intro e; have := congrArg List.length e; rw [hl] at this; simp at this; omega
        · intro d q e
          obtain ⟨m, rfl⟩ : ∃ m, n = m + 1 := ⟨n - 1, by omega⟩
          have e' : c :: r.take m = d :: q := e
          injection e' with e1 _
          rw [← e1]; exact hc
        · show firstP ((c :: r).take n) = some (k, ((c :: r).take n).length, v)
          rw [hl]; exact g1
      · exact ih tq hq t ht

/-- words stand where they are told, blanks alone between -/
def Placed : Nat → List UInt8 → List Tok → Prop
  | _, l, [] => ∀ c ∈ l, blankU c = true
  | p, l, t :: ts => ∃ b l' : List UInt8, p + b.length = t.p ∧ l = b ++ (t.t ++ l') ∧ (∀ c ∈ b, blankU c = true) ∧ t.t ≠ [] ∧ Placed (t.p + t.t.length) l' ts

theorem placed_blank {p : Nat} {c : UInt8} {r : List UInt8} {ts : List Tok} (hc : blankU c = true) (h : Placed (p + 1) r ts) : Placed p (c :: r) ts := by
  cases ts with
  | nil => intro d hd; rcases List.mem_cons.1 hd with rfl | hd
           · exact hc
           · exact h d hd
  | cons t ts =>
    obtain ⟨b, l', h1, h2, h3, h4, h5⟩ := h
    refine ⟨c :: b, l', by simp; omega, by rw [h2]; rfl, ?_, h4, h5⟩
    intro d hd
    rcases List.mem_cons.1 hd with rfl | hd
    · exact hc
    · exact h3 d hd

theorem words_placed (p : Nat) (l : List UInt8) : ∀ ts, wordsP p l = some ts → Placed p l ts := by
  refine words_ind (motive := fun p l => ∀ ts, wordsP p l = some ts → Placed p l ts) ?_ ?_ ?_ ?_ l.length p l (Nat.le_refl _)
  · intro p ts h; rw [wordsP_nil] at h; injection h with h; subst h; intro c hc; cases hc
  · intro p c r hc ih ts h; rw [wordsP_blank _ _ _ hc] at h; exact placed_blank hc (ih ts h)
  · intro p c r hc hf ts h; rw [wordsP_none _ _ _ hc hf] at h; cases h
  · intro p c r k n v hc hf h1 h2 ih ts h
    rw [wordsP_word _ _ _ hc hf] at h
    cases hq : wordsP (p + n) ((c :: r).drop n) with
    | none => rw [hq] at h; cases h
    | some tq =>
      rw [hq] at h
      injection h with h
      subst h
      have hl : ((c :: r).take n).length = n := by rw [List.length_take]; omega
      refine ⟨[], (c :: r).drop n, by simp, by simp, (fun d hd => by cases hd), ?_, ?_⟩
      · intro e
        have : ((c :: r).take n).length = 0 := by rw [show (c :: r).take n = [] from e]; rfl
        omega
      · show Placed (p + ((c :: r).take n).length) ((c :: r).drop n) tq
        rw [hl]; exact ih tq hq

def showP : List (List UInt8) → List UInt8
  | [] => []
  | [t] => t
  | t :: u :: r => t ++ 32 :: showP (u :: r)

def alike (a b : Tok) : Prop := a.k = b.k ∧ a.t = b.t ∧ a.n = b.n

theorem first_alone {t : Tok} (h : Good t) (p : Nat) : wordsP p t.t = some [⟨t.k, t.t, t.n, p⟩] := by
  obtain ⟨h1, h2, h3, _⟩ := h
  cases ht : t.t with
  | nil => exact absurd ht h1
  | cons c r =>
    rw [ht] at h3
    rw [wordsP_word _ _ _ (h2 c r ht) h3]
    simp [wordsP_nil]

/-- what is shown has the same words -/
theorem words_show : ∀ (ts : List Tok) (p : Nat), (∀ t ∈ ts, Good t) → ∃ us, wordsP p (showP (ts.map (·.t))) = some us ∧ us.map (·.t) = ts.map (·.t) ∧ us.map (·.k) = ts.map (·.k) ∧ us.map (·.n) = ts.map (·.n)
  | [], p, _ => ⟨[], wordsP_nil p, rfl, rfl, rfl⟩
  | [t], p, h => ⟨_, first_alone (h t (List.mem_singleton.2 rfl)) p, rfl, rfl, rfl⟩
  | t :: u :: r, p, h => by
    obtain ⟨us, hu, g1, g2, g3⟩ := words_show (u :: r) (p + t.t.length + 1) (fun x hx => h x (List.mem_cons_of_mem _ hx))
    refine ⟨⟨t.k, t.t, t.n, p⟩ :: us, ?_, by simpa using g1, by simpa using g2, by simpa using g3⟩
    show wordsP p (t.t ++ 32 :: showP ((u :: r).map (·.t))) = _
    rw [words_both (by decide), first_alone (h t (List.mem_cons_self ..)), hu]
    rfl

theorem show_len : ∀ l : List (List UInt8), (showP l).length ≤ (l.map (fun x => x.length + 1)).sum
  | [] => by simp [showP]
  | [t] => by simp [showP]
  | t :: u :: r => by
    have := show_len (u :: r)
    simp [showP] at this ⊢
    omega

theorem placed_len : ∀ (ts : List Tok) (p : Nat) (l : List UInt8), Placed p l ts → (ts.map (fun t => t.t.length + 1)).sum ≤ 2 * l.length
  | [], p, l, _ => by simp
  | t :: ts, p, l, h => by
    obtain ⟨b, l', h1, h2, h3, h4, h5⟩ := h
    have := placed_len ts _ l' h5
    have h6 : 0 < t.t.length := List.length_pos_iff.2 h4
    rw [h2]
    simp at this ⊢
    omega

/-- the digits of a number -/
def decP (n : Nat) : List UInt8 := if n < 10 then [UInt8.ofNat (48 + n)] else decP (n / 10) ++ [UInt8.ofNat (48 + n % 10)]
decreasing_by omega

theorem dig_toNat (d : Nat) (h : d < 10) : (UInt8.ofNat (48 + d)).toNat = 48 + d := by
  simp; omega
theorem dig_digit (d : Nat) (h : d < 10) : digitU (UInt8.ofNat (48 + d)) = true := by
  unfold digitU digitB; rw [dig_toNat d h]; simp; omega

theorem dec_digits (n : Nat) : ∀ c ∈ decP n, digitU c = true := by
  induction n using Nat.strongRecOn with
  | _ n ih =>
    unfold decP
    split
    · rename_i h; intro c hc; rw [List.mem_singleton.1 hc]; exact dig_digit n h
    · intro c hc
      rcases List.mem_append.1 hc with hc | hc
      · exact ih (n / 10) (by omega) c hc
      · rw [List.mem_singleton.1 hc]; exact dig_digit _ (by omega)
theorem dec_val (n : Nat) : numV (decP n) = n := by
  induction n using Nat.strongRecOn with
  | _ n ih =>
    unfold decP
    split
    · rename_i h; show 0 * 10 + ((UInt8.ofNat (48 + n)).toNat - 48) = n; rw [dig_toNat n h]; omega
    · have := ih (n / 10) (by omega)
      unfold numV at this ⊢
      rw [List.foldl_append, this]
      show (n / 10) * 10 + ((UInt8.ofNat (48 + n % 10)).toNat - 48) = n
      rw [dig_toNat _ (by omega)]; omega
theorem dec_head (n : Nat) : decP n ≠ [] ∧ (1 < (decP n).length → (decP n).head? ≠ some 48) := by
  induction n using Nat.strongRecOn with
  | _ n ih =>
    unfold decP
    split
    · simp
    · have := ih (n / 10) (by omega)
      refine ⟨by simp, fun _ => ?_⟩
      rw [List.head?_append, show (decP (n / 10)).head? = some ((decP (n / 10)).head this.1) from List.head?_eq_some_head this.1, Option.some_or, ← List.head?_eq_some_head this.1]
      by_cases h : 1 < (decP (n / 10)).length
      · exact this.2 h
      · unfold decP at h ⊢
        split
        · rename_i h2
          intro e
          have e : UInt8.ofNat (48 + n / 10) = 48 := by simpa using e
          have := congrArg UInt8.toNat e
          rw [dig_toNat _ h2] at this
          have h48 : (48 : UInt8).toNat = 48 := rfl
          omega
        · rename_i h2
          rw [if_neg h2] at h
          have h3 := (ih (n / 10 / 10) (by omega)).1
          have := List.length_pos_iff.2 h3
          simp at h
          exact absurd h h3
theorem dec_len (n m : Nat) (h : n < 10 ^ (m + 1)) : (decP n).length ≤ m + 1 := by
  induction m generalizing n with
  | zero => unfold decP; rw [if_pos (by omega)]; simp
  | succ m ih =>
    unfold decP
    split
    · simp
    · have := ih (n / 10) (by rw [Nat.div_lt_iff_lt_mul (by decide)]; rw [Nat.pow_succ] at h; exact h)
      simp; omega

theorem digit_not : ∀ c : UInt8, digitU c = true → blankU c = false ∧ letterU c = false := by
  intro c
  refine all_u8 (P := fun c => digitU c = true → blankU c = false ∧ letterU c = false) ?_ c
  decide +kernel

theorem tw_all {P : UInt8 → Bool} : ∀ l : List UInt8, (∀ c ∈ l, P c = true) → l.takeWhile P = l ∧ l.dropWhile P = []
  | [], _ => ⟨rfl, rfl⟩
  | c :: r, h => by
    have hc := h c (List.mem_cons_self ..)
    have := tw_all r (fun d hd => h d (List.mem_cons_of_mem _ hd))
    rw [List.takeWhile_cons, List.dropWhile_cons, if_pos hc, if_pos hc, this.1]
    exact ⟨rfl, this.2⟩

/-- a row of digits by itself -/
theorem words_digits (l : List UInt8) (hl : l ≠ []) (hd : ∀ c ∈ l, digitU c = true) (hz : (1 < l.length → l.head? ≠ some 48)) (h10 : l.length ≤ 10) (hv : numV l < 4294967296) (p : Nat) :
    wordsP p l = some [⟨2, l, (numV l : Int), p⟩] := by
  cases l with
  | nil => exact absurd rfl hl
  | cons c r =>
    have hc := hd c (List.mem_cons_self ..)
    obtain ⟨h1, h2⟩ := digit_not c hc
    obtain ⟨e1, e2⟩ := tw_all (P := digitU) (c :: r) hd
    have hok : numOk (c :: r) [] = true := by
      unfold numOk behindP
      simp only [Bool.and_eq_true, decide_eq_true_eq, Bool.not_eq_true', Bool.and_eq_false_iff, decide_eq_false_iff_not]
      refine ⟨⟨⟨h10, ?_⟩, hv⟩, trivial⟩
      by_cases h : 1 < (c :: r).length
      · right; simpa using hz h
      · left; exact h
    have hf : firstP (c :: r) = some (2, (c :: r).length, (numV (c :: r) : Int)) := by
      unfold firstP
      simp only [h2, hc, e1, e2, hok, if_true]
      simp
    rw [wordsP_word _ _ _ h1 hf]
    simp [wordsP_nil]
theorem words_zero (l : List UInt8) (hl : l ≠ []) (hd : ∀ c ∈ l, digitU c = true) (p : Nat) : wordsP p (48 :: l) = none := by
  have h48 : digitU 48 = true := by decide
  have ha : ∀ c ∈ 48 :: l, digitU c = true := by
    intro c hc
    rcases List.mem_cons.1 hc with h | h
    · rw [h]; exact h48
    · exact hd c h
  obtain ⟨e1, e2⟩ := tw_all (P := digitU) (48 :: l) ha
  have hok : numOk (48 :: l) [] = false := by
    unfold numOk
    have : 1 < (48 :: l).length := by have := List.length_pos_iff.2 hl; simp; omega
    rw [decide_eq_true this]
    simp
  have hf : firstP (48 :: l) = none := by
    unfold firstP
    simp only [show letterU 48 = false by decide, h48, e1, e2, hok, if_true]
    simp
  exact wordsP_none _ _ _ (by decide) hf

theorem example_yes : wordsP 0 [120, 49, 61, 120, 61, 61, 55] = some [⟨1, [120, 49], 0, 0⟩, ⟨3, [61], 0, 2⟩, ⟨1, [120], 0, 3⟩, ⟨3, [61, 61], 0, 4⟩, ⟨2, [55], 7, 6⟩] := by
  rw [wordsP_word 0 120 _ (by decide) (k := 1) (n := 2) (v := 0) (by decide)]
  show (wordsP 2 [61, 120, 61, 61, 55]).map _ = _
  rw [wordsP_word 2 61 _ (by decide) (k := 3) (n := 1) (v := 0) (by decide)]
  show ((wordsP 3 [120, 61, 61, 55]).map _).map _ = _
  rw [wordsP_word 3 120 _ (by decide) (k := 1) (n := 1) (v := 0) (by decide)]
  show (((wordsP 4 [61, 61, 55]).map _).map _).map _ = _
  rw [wordsP_word 4 61 _ (by decide) (k := 3) (n := 2) (v := 0) (by decide)]
  show ((((wordsP 6 [55]).map _).map _).map _).map _ = _
  rw [wordsP_word 6 55 _ (by decide) (k := 2) (n := 1) (v := 7) (by decide)]
  show (((((wordsP 7 []).map _).map _).map _).map _).map _ = _
  rw [wordsP_nil]
  rfl
theorem example_no : wordsP 0 [120, 49, 61, 120, 61, 61, 48, 55] = none := by
  rw [wordsP_word 0 120 _ (by decide) (k := 1) (n := 2) (v := 0) (by decide)]
  show (wordsP 2 [61, 120, 61, 61, 48, 55]).map _ = _
  rw [wordsP_word 2 61 _ (by decide) (k := 3) (n := 1) (v := 0) (by decide)]
  show ((wordsP 3 [120, 61, 61, 48, 55]).map _).map _ = _
  rw [wordsP_word 3 120 _ (by decide) (k := 1) (n := 1) (v := 0) (by decide)]
  show (((wordsP 4 [61, 61, 48, 55]).map _).map _).map _ = _
  rw [wordsP_word 4 61 _ (by decide) (k := 3) (n := 2) (v := 0) (by decide)]
  show ((((wordsP 6 [48, 55]).map _).map _).map _).map _ = _
  rw [wordsP_none 6 48 _ (by decide) (by decide)]
  rfl

theorem dw_head {P : UInt8 → Bool} : ∀ (l : List UInt8) (c : UInt8) (r : List UInt8), l.dropWhile P = c :: r → P c = false
  | [], c, r, h => by cases h
  | d :: l, c, r, h => by
    rw [List.dropWhile_cons] at h
    split at h
    · exact dw_head l c r h
    · rename_i hd
      injection h with h1 _
      rw [← h1]
      simpa using hd

/-- where a reader of words stands: what it has, and what is left -/
structure AtWord (l : List UInt8) (pos : Nat) (acc : List Tok) : Prop where
  all : wordsP 0 l = (wordsP pos (l.drop pos)).map (acc ++ ·)
  few : acc.length ≤ pos
  le : pos ≤ l.length
structure Fresh (l : List UInt8) (pos : Nat) : Prop where
  head : ∀ c r, l.drop pos = c :: r → blankU c = false

theorem AtWord.start (l : List UInt8) : AtWord l 0 [] := ⟨by simp, by simp, by omega⟩
theorem AtWord.blank {l : List UInt8} {pos : Nat} {acc : List Tok} (h : AtWord l pos acc) {c : UInt8} {r : List UInt8} (hd : l.drop pos = c :: r) (hb : blankU c = true) : AtWord l (pos + 1) acc := by
  have hl : pos + 1 ≤ l.length := by
    have := congrArg List.length hd; rw [List.length_drop] at this; simp at this; omega
  refine ⟨?_, by have := h.few; omega, hl⟩
  rw [h.all, hd, wordsP_blank _ _ _ hb, ← List.drop_drop, hd]
  rfl
theorem AtWord.skip {l : List UInt8} {pos : Nat} {acc : List Tok} (h : AtWord l pos acc) : AtWord l (pos + ((l.drop pos).takeWhile blankU).length) acc ∧ Fresh l (pos + ((l.drop pos).takeWhile blankU).length) := by
  have e : l.drop (pos + ((l.drop pos).takeWhile blankU).length) = (l.drop pos).dropWhile blankU := by rw [← List.drop_drop, tw_drop]
  refine ⟨⟨?_, by have := h.few; omega, ?_⟩, ⟨fun c r hc => ?_⟩⟩
  · rw [h.all, words_skip pos, e]
  · have h1 := (List.takeWhile_sublist (p := blankU) (l := l.drop pos)).length_le
    rw [List.length_drop] at h1
    have := h.le
    omega
  · rw [e] at hc; exact dw_head _ _ _ hc
theorem AtWord.word {l : List UInt8} {pos : Nat} {acc : List Tok} (h : AtWord l pos acc) {k : Int} {n : Nat} {v : Int} (hf : firstP (l.drop pos) = some (k, n, v)) :
    AtWord l (pos + n) (acc ++ [⟨k, (l.drop pos).take n, v, pos⟩]) ∧ 1 ≤ n ∧ ((l.drop pos).take n).length = n ∧ pos + n ≤ l.length := by
  have hl := firstP_len hf
  have h2 := hl.2
  rw [List.length_drop] at h2
  cases hd : l.drop pos with
  | nil => rw [hd] at hf; cases hf
  | cons c r =>
    rw [hd] at hf hl
    have hb : blankU c = false := by
      cases hb : blankU c
      · rfl
      · rw [firstP_blank hb] at hf; cases hf
    refine ⟨⟨?_, by have := h.few; simp; omega, by omega⟩, hl.1, by rw [List.length_take]; omega, by omega⟩
    rw [h.all, hd, wordsP_word _ _ _ hb hf, ← List.drop_drop, hd, Option.map_map]
    cases wordsP (pos + n) ((c :: r).drop n) with
    | none => rfl
    | some q => simp
theorem AtWord.not {l : List UInt8} {pos : Nat} {acc : List Tok} (h : AtWord l pos acc) (hfr : Fresh l pos) (hlt : pos < l.length) (hf : firstP (l.drop pos) = none) : wordsP 0 l = none := by
  cases hd : l.drop pos with
  | nil => have := congrArg List.length hd; rw [List.length_drop] at this; simp at this; omega
  | cons c r =>
    rw [hd] at hf
    rw [h.all, hd, wordsP_none _ _ _ (hfr.head c r hd) hf]
    rfl
theorem AtWord.done {l : List UInt8} {pos : Nat} {acc : List Tok} (h : AtWord l pos acc) (hlt : ¬ pos < l.length) : wordsP 0 l = some acc := by
  rw [h.all, List.drop_eq_nil_of_le (by omega), wordsP_nil]
  simp
end Go.Proofs.YtplndghcileghaaDoor
