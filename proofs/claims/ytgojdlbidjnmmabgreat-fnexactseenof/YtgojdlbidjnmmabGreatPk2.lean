import Derived.Test.YtgojdlbidjnmmabGreatPk1
namespace Go.Proofs.YtgojdlbidjnmmabGreat
set_option linter.unusedSimpArgs false

def cl (l : List Int) (j : Nat) : Int := bidi (fn l j)
def opensB (c : Int) : Bool := decide (19 ≤ c ∧ c ≤ 21)
/-- How much deeper a class leads. -/
def del (c : Int) : Int := if opensB c = true then 1 else if c = 22 then -1 else 0
/-- How deep it is behind so many, from a place on. -/
def dp (c : Nat → Int) (i : Nat) : Nat → Int
  | 0 => 0
  | m + 1 => dp c i m + del (c (i + m))
theorem dp_succ (c : Nat → Int) (i m : Nat) : dp c i (m + 1) = dp c i m + del (c (i + m)) := rfl
/-- The mate of what opens at a place. -/
structure MateIs (c : Nat → Int) (i j : Nat) : Prop where
  lt : i < j
  zero : dp c i (j + 1 - i) = 0
  pos : ∀ m, 1 ≤ m → m ≤ j - i → 1 ≤ dp c i m
theorem mate_unique {c : Nat → Int} {i j k : Nat} (h : MateIs c i j) (h2 : MateIs c i k) : j = k := by
  rcases Nat.lt_trichotomy j k with a | a | a
  · have := h2.pos (j + 1 - i) (by have := h.lt; omega) (by omega); have := h.zero; omega
  · exact a
  · have := h.pos (k + 1 - i) (by have := h2.lt; omega) (by omega); have := h2.zero; omega
/-- None closes it. -/
def NoMate (c : Nat → Int) (n i : Nat) : Prop := ∀ m, 1 ≤ m → m ≤ n - i → 1 ≤ dp c i m
/-- The function that tells mates: the place of the mate, or n. -/
def MateFn (c : Nat → Int) (n : Nat) (mt : Nat → Nat) : Prop :=
  ∀ i, i < n → opensB (c i) = true → (MateIs c i (mt i) ∧ mt i < n) ∨ (mt i = n ∧ NoMate c n i)

/-- By the stack: which are open ahead of a place. -/
structure Stack (c : Nat → Int) (k : Nat) (S : List Int) : Prop where
  lt : ∀ t, t < S.length → 0 ≤ fn S t ∧ fn S t < (k : Int) ∧ opensB (c (fn S t).toNat) = true
  deep : ∀ t, t < S.length → dp c (fn S t).toNat (k - (fn S t).toNat) = (S.length : Int) - t
  pos : ∀ t, t < S.length → ∀ m, 1 ≤ m → m ≤ k - (fn S t).toNat → 1 ≤ dp c (fn S t).toNat m

/-- What the list of mates says of a place below k. -/
def MatesTo (c : Nat → Int) (k : Nat) (S M : List Int) : Prop :=
  ∀ i, i < k → opensB (c i) = true → ((∃ j, j < k ∧ MateIs c i j ∧ fn M i = (j : Int)) ∨ (fn M i = -1 ∧ ∃ t, t < S.length ∧ fn S t = (i : Int)))
/-- Of what closes: where what it closes opens; -1 if it closes nothing. -/
def ClosTo (c : Nat → Int) (k : Nat) (M : List Int) : Prop :=
  ∀ j, j < k → opensB (c j) = false → ((∃ i, i < j ∧ opensB (c i) = true ∧ MateIs c i j ∧ fn M j = (i : Int)) ∨ (fn M j = -1 ∧ ∀ i, i < j → opensB (c i) = true → ¬ MateIs c i j))

theorem stack_zero (c : Nat → Int) : Stack c 0 [] := ⟨by simp, by simp, by simp⟩
theorem fn_snoc_last (S : List Int) (x : Int) : fn (S ++ [x]) S.length = x := by simp [fn]
theorem stack_push {c : Nat → Int} {k : Nat} {S : List Int} (h : Stack c k S) (ho : opensB (c k) = true) : Stack c (k + 1) (S ++ [(k : Int)]) := by
  have hd : del (c k) = 1 := by simp [del, ho]
  have old : ∀ t, t < S.length → dp c (fn S t).toNat (k + 1 - (fn S t).toNat) = dp c (fn S t).toNat (k - (fn S t).toNat) + 1 := by
    intro t ht
    have h1 := (h.lt t ht).1; have h2 := (h.lt t ht).2.1
    rw [show k + 1 - (fn S t).toNat = k - (fn S t).toNat + 1 by omega, dp_succ, show (fn S t).toNat + (k - (fn S t).toNat) = k by omega, hd]
  refine ⟨fun t ht => ?_, fun t ht => ?_, fun t ht m h1 h2 => ?_⟩ <;> simp only [List.length_append, List.length_singleton] at ht ⊢
  · by_cases e : t = S.length
    · subst e; rw [fn_snoc_last]; simp [ho]; omega
    · rw [fn_append_left (by omega)]; have := h.lt t (by omega); exact ⟨this.1, by omega, this.2.2⟩
  · by_cases e : t = S.length
    · subst e; rw [fn_snoc_last]
      rw [show ((k : Int)).toNat = k by omega, show k + 1 - k = 1 by omega]
      simp [dp, hd]; omega
    · rw [fn_append_left (by omega), old t (by omega), h.deep t (by omega)]; omega
  · by_cases e : t = S.length
    · subst e
      rw [fn_snoc_last] at h2 ⊢
      rw [show ((k : Int)).toNat = k by omega] at h2 ⊢
      have : m = 1 := by omega
      subst this; simp [dp, hd]
    · rw [fn_append_left (by omega)] at h2 ⊢
      by_cases e2 : m ≤ k - (fn S t).toNat
      · exact h.pos t (by omega) m h1 e2
      · have h3 := (h.lt t (by omega)).1; have h4 := (h.lt t (by omega)).2.1
        rw [show m = k + 1 - (fn S t).toNat by omega, old t (by omega), h.deep t (by omega)]; omega
theorem stack_stay {c : Nat → Int} {k : Nat} {S : List Int} (h : Stack c k S) (hd : del (c k) = 0 ∨ S = []) : Stack c (k + 1) S := by
  rcases hd with hd | rfl
  · have old : ∀ t, t < S.length → dp c (fn S t).toNat (k + 1 - (fn S t).toNat) = dp c (fn S t).toNat (k - (fn S t).toNat) := by
      intro t ht
      have h1 := (h.lt t ht).1; have h2 := (h.lt t ht).2.1
      rw [show k + 1 - (fn S t).toNat = k - (fn S t).toNat + 1 by omega, dp_succ, show (fn S t).toNat + (k - (fn S t).toNat) = k by omega, hd]; omega
    refine ⟨fun t ht => ?_, fun t ht => ?_, fun t ht m h1 h2 => ?_⟩
    · have := h.lt t ht; exact ⟨this.1, by omega, this.2.2⟩
    · rw [old t ht, h.deep t ht]
    · by_cases e2 : m ≤ k - (fn S t).toNat
      · exact h.pos t ht m h1 e2
      · have h3 := (h.lt t ht).1; have h4 := (h.lt t ht).2.1
        rw [show m = k + 1 - (fn S t).toNat by omega, old t ht, h.deep t ht]; omega
  · exact ⟨by simp, by simp, by simp⟩
/-- A closing one: the last one goes, and its mate is here. -/
theorem stack_pop {c : Nat → Int} {k q : Nat} {S : List Int} (h : Stack c k S) (hq : S.length = q + 1) (hc : c k = 22) :
    Stack c (k + 1) (S.take q) ∧ MateIs c (fn S q).toNat k := by
  have hd : del (c k) = -1 := by rw [hc]; decide
  have old : ∀ t, t < S.length → dp c (fn S t).toNat (k + 1 - (fn S t).toNat) = dp c (fn S t).toNat (k - (fn S t).toNat) - 1 := by
    intro t ht
    have h1 := (h.lt t ht).1; have h2 := (h.lt t ht).2.1
    rw [show k + 1 - (fn S t).toNat = k - (fn S t).toNat + 1 by omega, dp_succ, show (fn S t).toNat + (k - (fn S t).toNat) = k by omega, hd]; omega
  have hl : (S.take q).length = q := by rw [List.length_take]; omega
  refine ⟨⟨fun t ht => ?_, fun t ht => ?_, fun t ht m h1 h2 => ?_⟩, ?_, ?_, ?_⟩
  · rw [hl] at ht; rw [fn_take ht]; have := h.lt t (by omega); exact ⟨this.1, by omega, this.2.2⟩
  · rw [hl] at ht ⊢; rw [fn_take ht, old t (by omega), h.deep t (by omega)]; omega
  · rw [hl] at ht; rw [fn_take ht] at h2 ⊢
    by_cases e2 : m ≤ k - (fn S t).toNat
    · exact h.pos t (by omega) m h1 e2
    · have h3 := (h.lt t (by omega)).1; have h4 := (h.lt t (by omega)).2.1
      rw [show m = k + 1 - (fn S t).toNat by omega, old t (by omega), h.deep t (by omega)]; omega
  · have := h.lt q (by omega); omega
  · rw [old q (by omega), h.deep q (by omega)]; omega
  · intro m h1 h2; exact h.pos q (by omega) m h1 h2

/-- At the end: what the list of mates says. -/
theorem mates_end {c : Nat → Int} {n : Nat} {S M : List Int} (hs : Stack c n S) (hm : MatesTo c n S M) (i : Nat) (hi : i < n) (ho : opensB (c i) = true) :
    (∃ j, j < n ∧ MateIs c i j ∧ fn M i = (j : Int)) ∨ (fn M i = -1 ∧ NoMate c n i) := by
  rcases hm i hi ho with h | ⟨h, t, ht, e⟩
  · exact .inl h
  · refine .inr ⟨h, fun m h1 h2 => ?_⟩
    have := hs.pos t ht m h1 (by rw [e]; simpa using h2)
    rwa [e, show ((i : Int)).toNat = i by omega] at this
end Go.Proofs.YtgojdlbidjnmmabGreat
namespace Go.Proofs.YtgojdlbidjnmmabGreat
set_option linter.unusedSimpArgs false

/-- What is told at a moment: a level, a side that counts for all, 0 for none, and whether it is read by itself. -/
structure Tl where
  level : Int
  side : Int
  alone : Bool
/-- The levels that are open, the last one first, and how many could not be pushed. -/
structure TS where
  st : List Tl
  lost : Int
  skip : Int

def topL (s : List Tl) : Int := match s with | [] => 0 | x :: _ => x.level
def topS (s : List Tl) : Int := match s with | [] => 0 | x :: _ => x.side
def topA (s : List Tl) : Bool := match s with | [] => false | x :: _ => x.alone
def upL (lv : Int) (right : Bool) : Int := if right = decide (lv % 2 = 0) then lv + 1 else lv + 2
def pushT (s : TS) (right : Bool) (side : Int) (alone : Bool) : TS :=
  if upL (topL s.st) right ≤ 20 ∧ s.lost = 0 ∧ s.skip = 0 then ⟨⟨upL (topL s.st) right, side, alone⟩ :: s.st, s.lost, s.skip⟩
  else if alone = true then ⟨s.st, s.lost + 1, s.skip⟩
  else if s.lost = 0 then ⟨s.st, s.lost, s.skip + 1⟩ else s
def hasA : List Tl → Bool
  | [] => false
  | x :: r => x.alone || hasA r
def cutA : List Tl → List Tl
  | [] => []
  | x :: r => if x.alone = true then r else cutA r
def endT (s : TS) : TS :=
  if 0 < s.lost then ⟨s.st, s.lost - 1, s.skip⟩ else if hasA s.st = true then ⟨cutA s.st, s.lost, 0⟩ else s
def dropL (s : List Tl) : List Tl := match s with
  | x :: y :: r => if x.alone = true then x :: y :: r else y :: r
  | r => r
def dropT (s : TS) : TS :=
  if 0 < s.lost then s else if 0 < s.skip then ⟨s.st, s.lost, s.skip - 1⟩ else ⟨dropL s.st, s.lost, s.skip⟩
def rightT (c fsi : Int) : Bool := decide (c = 20 ∨ (c = 21 ∧ fsi = 1))
def stepT (c fsi : Int) (s : TS) : TS :=
  if opensB c = true then pushT s (rightT c fsi) 0 true
  else if c = 22 then endT s
  else if c = 16 then dropT s
  else if c = 14 then pushT s false 0 false
  else if c = 15 then pushT s true 0 false
  else if c = 17 then pushT s false 1 false
  else if c = 18 then pushT s true 2 false
  else s
def tellsB (c : Int) : Bool := decide (c = 10 ∨ (14 ≤ c ∧ c ≤ 18))
def atT (c : Int) (s : TS) : TS := if c = 22 then endT s else s
def lvT (c : Int) (s : TS) : Int := if tellsB c = true then -1 else topL (atT c s).st
/-- The class of a letter: the side that counts for all, if there is one. -/
def sdT (s : List Tl) (c : Int) : Int := if topS s ≠ 0 then topS s else c
def clT (c : Int) (s : TS) : Int := if tellsB c = true then 0 else sdT (atT c s).st c
def told (c fs : Nat → Int) (base : Int) : Nat → TS
  | 0 => ⟨[⟨base, 0, false⟩], 0, 0⟩
  | k + 1 => stepT (c k) (fs k) (told c fs base k)
def lvAt (c fs : Nat → Int) (base : Int) (k : Nat) : Int := lvT (c k) (told c fs base k)
def clAt (c fs : Nat → Int) (base : Int) (k : Nat) : Int := clT (c k) (told c fs base k)

def lvSet (c : Int) (s : TS) (lv : List Int) (i : Nat) : List Int := if tellsB c = true then lv else lv.set i (topL (atT c s).st)
def clSet (c : Int) (s : TS) (cls : List Int) (i : Nat) : List Int := if tellsB c = true then cls else cls.set i (sdT (atT c s).st c)
/-- Levels that ascend, from what was at first. -/
structure GoodS (base : Int) (k : Nat) (s : TS) : Prop where
  last : ∃ r, s.st = r ++ [⟨base, 0, false⟩]
  srt : s.st.Pairwise (fun x y => y.level < x.level)
  le : ∀ x ∈ s.st, base ≤ x.level ∧ x.level ≤ 20
  lost0 : 0 ≤ s.lost
  lostk : s.lost ≤ k
  skip0 : 0 ≤ s.skip
  skipk : s.skip ≤ k
  len : s.st.length ≤ k + 1

theorem upL_bd (lv : Int) (r : Bool) : lv + 1 ≤ upL lv r ∧ upL lv r ≤ lv + 2 := by unfold upL; split <;> omega
theorem good_ne {base : Int} {k : Nat} {s : TS} (h : GoodS base k s) : ∃ x r, s.st = x :: r := by
  obtain ⟨r, hr⟩ := h.last
  cases r with
  | nil => exact ⟨_, _, hr⟩
  | cons x r => exact ⟨_, _, hr⟩
theorem good_mono {base : Int} {k k' : Nat} {s : TS} (h : GoodS base k s) (hk : k ≤ k') : GoodS base k' s :=
  ⟨h.last, h.srt, h.le, h.lost0, by have := h.lostk; omega, h.skip0, by have := h.skipk; omega, by have := h.len; omega⟩
theorem good_zero {base : Int} (hb : 0 ≤ base ∧ base ≤ 1) : GoodS base 0 ⟨[⟨base, 0, false⟩], 0, 0⟩ :=
  ⟨⟨[], rfl⟩, by simp, by simp; omega, by simp, by simp, by simp, by simp, by simp⟩
theorem good_push {base : Int} {k : Nat} {s : TS} (h : GoodS base k s) (right : Bool) (side : Int) (alone : Bool) : GoodS base (k + 1) (pushT s right side alone) := by
  unfold pushT
  obtain ⟨x, r, hx⟩ := good_ne h
  have l0 := h.lost0; have lk := h.lostk; have s0 := h.skip0; have sk := h.skipk
  split
  · rename_i hc
    have hu := upL_bd (topL s.st) right
    have ht : topL s.st = x.level := by rw [hx]; rfl
    have hbx := (h.le x (by rw [hx]; simp)).1
    refine ⟨?_, ?_, ?_, by simpa using l0, by show s.lost ≤ _; omega, s0, by show s.skip ≤ _; omega, by have := h.len; simp; omega⟩
    · obtain ⟨q, hq⟩ := h.last; exact ⟨_ :: q, by rw [hq]; rfl⟩
    · refine List.Pairwise.cons ?_ h.srt
      intro y hy
      have hs := h.srt
      rw [hx] at hs hy
      have : y.level ≤ x.level := by
        rcases List.mem_cons.1 hy with e | e
        · rw [e]; exact Int.le_refl _
        · exact Int.le_of_lt ((List.pairwise_cons.1 hs).1 y e)
      show y.level < upL _ _
      omega
    · intro y hy
      rcases List.mem_cons.1 hy with e | e
      · subst e; show base ≤ upL _ _ ∧ upL _ _ ≤ 20; omega
      · exact h.le y e
  · split
    · exact ⟨h.last, h.srt, h.le, by show 0 ≤ s.lost + 1; omega, by show s.lost + 1 ≤ _; omega, s0, by show s.skip ≤ _; omega, by have := h.len; show s.st.length ≤ _; omega⟩
    · split
      · exact ⟨h.last, h.srt, h.le, l0, by show s.lost ≤ _; omega, by show 0 ≤ s.skip + 1; omega, by show s.skip + 1 ≤ _; omega, by have := h.len; show s.st.length ≤ _; omega⟩
      · exact good_mono h (by omega)
theorem cutA_suffix (l : List Tl) : ∃ p, l = p ++ cutA l := by
  induction l with
  | nil => exact ⟨[], rfl⟩
  | cons x r ih =>
    simp only [cutA]
    split
    · exact ⟨[x], rfl⟩
    · obtain ⟨p, hp⟩ := ih; exact ⟨x :: p, by rw [List.cons_append, ← hp]⟩
theorem cutA_last {base : Int} {r l : List Tl} (h : l = r ++ [⟨base, 0, false⟩]) (ha : hasA l = true) : ∃ r', cutA l = r' ++ [⟨base, 0, false⟩] := by
  induction l generalizing r with
  | nil => simp at h
  | cons x t ih =>
    cases r with
    | nil =>
      simp at h; obtain ⟨rfl, rfl⟩ := h
      simp [hasA] at ha
    | cons y r =>
      simp at h; obtain ⟨rfl, h⟩ := h
      simp only [cutA]
      split
      · exact ⟨r, h⟩
      · rename_i hx
        refine ih h ?_
        simp only [hasA, Bool.or_eq_true] at ha
        rcases ha with ha | ha
        · exact absurd ha hx
        · exact ha
theorem good_end {base : Int} {k : Nat} {s : TS} (h : GoodS base k s) : GoodS base k (endT s) := by
  unfold endT
  have l0 := h.lost0; have lk := h.lostk; have s0 := h.skip0; have sk := h.skipk
  split
  · exact ⟨h.last, h.srt, h.le, by show 0 ≤ s.lost - 1; omega, by show s.lost - 1 ≤ _; omega, s0, sk, h.len⟩
  · split
    · rename_i ha
      obtain ⟨p, hp⟩ := cutA_suffix s.st
      obtain ⟨r, hr⟩ := h.last
      have hs := h.srt
      rw [hp, List.pairwise_append] at hs
      refine ⟨cutA_last hr ha, hs.2.1, fun x hx => h.le x (by rw [hp]; exact List.mem_append_right _ hx), l0, lk, by simp, by show (0 : Int) ≤ _; omega, ?_⟩
      have := h.len
      rw [hp, List.length_append] at this
      show (cutA s.st).length ≤ _; omega
    · exact h
theorem dropL_cases (l : List Tl) : dropL l = l ∨ ∃ x y r, l = x :: y :: r ∧ x.alone = false ∧ dropL l = y :: r := by
  match l with
  | [] => exact .inl rfl
  | [x] => exact .inl rfl
  | x :: y :: r =>
    simp only [dropL]
    split
    · exact .inl rfl
    · rename_i h; exact .inr ⟨x, y, r, rfl, by simpa using h, rfl⟩
theorem good_drop {base : Int} {k : Nat} {s : TS} (h : GoodS base k s) : GoodS base k (dropT s) := by
  unfold dropT
  have l0 := h.lost0; have lk := h.lostk; have s0 := h.skip0; have sk := h.skipk
  split
  · exact h
  · split
    · exact ⟨h.last, h.srt, h.le, l0, lk, by show 0 ≤ s.skip - 1; omega, by show s.skip - 1 ≤ _; omega, h.len⟩
    · rcases dropL_cases s.st with e | ⟨x, y, r, e, _, e2⟩
      · rw [e]; exact h
      · rw [e2]
        have hs := h.srt
        have hle := h.le
        have hln := h.len
        rw [e] at hs hle hln
        refine ⟨?_, (List.pairwise_cons.1 hs).2, fun z hz => hle z (List.mem_cons_of_mem _ hz), l0, lk, s0, sk, ?_⟩
        · obtain ⟨q, hq⟩ := h.last
          rw [e] at hq
          cases q with
          | nil => simp at hq
          | cons a q => simp at hq; exact ⟨q, hq.2⟩
        · simp only [List.length_cons] at hln; show (y :: r).length ≤ _; simp only [List.length_cons]; omega
theorem good_step {base : Int} {k : Nat} {s : TS} (h : GoodS base k s) (c f : Int) : GoodS base (k + 1) (stepT c f s) := by
  unfold stepT
  split
  · exact good_push h _ _ _
  · split
    · exact good_mono (good_end h) (by omega)
    · split
      · exact good_mono (good_drop h) (by omega)
      · split
        · exact good_push h _ _ _
        · split
          · exact good_push h _ _ _
          · split
            · exact good_push h _ _ _
            · split
              · exact good_push h _ _ _
              · exact good_mono h (by omega)
theorem good_told (c fs : Nat → Int) {base : Int} (hb : 0 ≤ base ∧ base ≤ 1) (k : Nat) : GoodS base k (told c fs base k) := by
  induction k with
  | zero => exact good_zero hb
  | succ k ih => exact good_step ih _ _
theorem good_at {base : Int} {k : Nat} {s : TS} (h : GoodS base k s) (c : Int) : GoodS base k (atT c s) := by
  unfold atT; split
  · exact good_end h
  · exact h
theorem good_top {base : Int} {k : Nat} {s : TS} (h : GoodS base k s) : base ≤ topL s.st ∧ topL s.st ≤ 20 := by
  obtain ⟨x, r, hx⟩ := good_ne h
  have := h.le x (by rw [hx]; simp)
  rw [hx]; exact this
theorem lvAt_bd (c fs : Nat → Int) {base : Int} (hb : 0 ≤ base ∧ base ≤ 1) (k : Nat) : (tellsB (c k) = true ∧ lvAt c fs base k = -1) ∨ (tellsB (c k) = false ∧ base ≤ lvAt c fs base k ∧ lvAt c fs base k ≤ 20) := by
  unfold lvAt lvT
  cases h : tellsB (c k) with
  | true => exact .inl ⟨rfl, if_pos rfl⟩
  | false =>
    have := good_top (good_at (good_told c fs hb k) (c k))
    exact .inr ⟨rfl, by rw [if_neg (by simp)]; exact this⟩
end Go.Proofs.YtgojdlbidjnmmabGreat
namespace Go.Proofs.YtgojdlbidjnmmabGreat
set_option linter.unusedSimpArgs false

def cntA (l : List Tl) : Int := match l with
  | [] => 0
  | x :: r => (if x.alone = true then 1 else 0) + cntA r
theorem cntA_nn (l : List Tl) : 0 ≤ cntA l := by
  induction l with
  | nil => exact Int.le_refl _
  | cons x r ih => simp only [cntA]; split <;> omega
theorem cntA_le (l : List Tl) : cntA l ≤ l.length := by
  induction l with
  | nil => exact Int.le_refl _
  | cons x r ih => simp only [cntA, List.length_cons]; split <;> omega
theorem hasA_cnt (l : List Tl) : hasA l = true ↔ 0 < cntA l := by
  induction l with
  | nil => simp [hasA, cntA]
  | cons x r ih =>
    have := cntA_nn r
    simp only [hasA, cntA, Bool.or_eq_true, ih]
    by_cases h : x.alone = true
    · rw [if_pos h]; simp [h]; omega
    · rw [if_neg h]; simp [h]
theorem hasA_app (X r : List Tl) (y : Tl) (hy : y.alone = true) : hasA (X ++ y :: r) = true := by
  induction X with
  | nil => simp [hasA, hy]
  | cons x X ih => simp [hasA, ih]
theorem cutA_none {X : List Tl} (r : List Tl) (y : Tl) (hy : y.alone = true) (h : cntA X = 0) : cutA (X ++ y :: r) = r := by
  induction X with
  | nil => simp [cutA, hy]
  | cons x X ih =>
    have := cntA_nn X
    simp only [cntA] at h
    by_cases hx : x.alone = true
    · rw [if_pos hx] at h; omega
    · rw [if_neg hx] at h
      rw [List.cons_append, cutA, if_neg hx]
      exact ih (by omega)
theorem cutA_some {X : List Tl} (r : List Tl) (y : Tl) (h : 0 < cntA X) : ∃ X', cutA (X ++ y :: r) = X' ++ y :: r ∧ cntA X' = cntA X - 1 := by
  induction X with
  | nil => simp [cntA] at h
  | cons x X ih =>
    simp only [cntA] at h
    by_cases hx : x.alone = true
    · refine ⟨X, by rw [List.cons_append, cutA, if_pos hx], ?_⟩
      simp only [cntA]; rw [if_pos hx]; omega
    · rw [if_neg hx] at h
      obtain ⟨X', h1, h2⟩ := ih (by omega)
      refine ⟨X', by rw [List.cons_append, cutA, if_neg hx]; exact h1, ?_⟩
      simp only [cntA]; rw [if_neg hx]; omega
theorem push_form {s : TS} {X r : List Tl} {y : Tl} (hs : s.st = X ++ y :: r) (h0 : 0 ≤ s.lost) (right : Bool) (side : Int) (alone : Bool) :
    ∃ X', (pushT s right side alone).st = X' ++ y :: r ∧ cntA X' + (pushT s right side alone).lost = cntA X + s.lost + (if alone = true then 1 else 0) ∧ 0 ≤ (pushT s right side alone).lost := by
  unfold pushT
  split
  · refine ⟨⟨upL (topL s.st) right, side, alone⟩ :: X, by simp [hs], ?_, h0⟩
    simp only [cntA]; omega
  · split
    · exact ⟨X, hs, by show cntA X + (s.lost + 1) = _; omega, by show 0 ≤ s.lost + 1; omega⟩
    · split
      · exact ⟨X, hs, by show cntA X + s.lost = _; omega, h0⟩
      · exact ⟨X, hs, by omega, h0⟩
theorem end_form {s : TS} {X r : List Tl} {y : Tl} (hs : s.st = X ++ y :: r) (h0 : 0 ≤ s.lost) (hd : 1 ≤ cntA X + s.lost) (hy : y.alone = true) :
    ∃ X', (endT s).st = X' ++ y :: r ∧ cntA X' + (endT s).lost = cntA X + s.lost - 1 ∧ 0 ≤ (endT s).lost := by
  unfold endT
  split
  · exact ⟨X, hs, by show cntA X + (s.lost - 1) = _; omega, by show 0 ≤ s.lost - 1; omega⟩
  · rw [if_pos (by rw [hs]; exact hasA_app X r y hy)]
    obtain ⟨X', h1, h2⟩ := cutA_some (X := X) r y (by omega)
    exact ⟨X', by show cutA s.st = _; rw [hs, h1], by show cntA X' + s.lost = _; omega, h0⟩
theorem drop_form {s : TS} {X r : List Tl} {y : Tl} (hs : s.st = X ++ y :: r) (h0 : 0 ≤ s.lost) (hy : y.alone = true) :
    ∃ X', (dropT s).st = X' ++ y :: r ∧ cntA X' + (dropT s).lost = cntA X + s.lost ∧ 0 ≤ (dropT s).lost := by
  unfold dropT
  split
  · exact ⟨X, hs, rfl, h0⟩
  · split
    · exact ⟨X, hs, rfl, h0⟩
    · rcases dropL_cases s.st with e | ⟨a, b, t, e, ea, e2⟩
      · exact ⟨X, by show dropL s.st = _; rw [e, hs], rfl, h0⟩
      · cases X with
        | nil => rw [hs] at e; simp at e; rw [← e.1, hy] at ea; cases ea
        | cons x X =>
          rw [hs, List.cons_append] at e
          simp only [List.cons.injEq] at e
          refine ⟨X, by show dropL s.st = _; rw [e2, ← e.2], ?_, h0⟩
          show cntA X + s.lost = _
          simp only [cntA]; rw [e.1, ea]; simp
theorem win_step {s : TS} {X r : List Tl} {y : Tl} (hs : s.st = X ++ y :: r) (h0 : 0 ≤ s.lost) (hy : y.alone = true) (c f : Int) (hd : 0 ≤ cntA X + s.lost + del c) :
    ∃ X', (stepT c f s).st = X' ++ y :: r ∧ cntA X' + (stepT c f s).lost = cntA X + s.lost + del c ∧ 0 ≤ (stepT c f s).lost := by
  unfold stepT
  unfold del at hd ⊢
  by_cases ho : opensB c = true
  · simp only [ho, if_true] at hd ⊢
    have := push_form hs h0 (rightT c f) 0 true
    simpa using this
  · have ho' : opensB c = false := by simpa using ho
    simp only [ho', Bool.false_eq_true, if_false] at hd ⊢
    by_cases h22 : c = 22
    · simp only [h22, if_true] at hd ⊢
      have := end_form hs h0 (by omega) hy
      obtain ⟨X', a, b, d⟩ := this
      exact ⟨X', a, by rw [b]; omega, d⟩
    · simp only [h22, if_false] at hd ⊢
      by_cases h16 : c = 16
      · simp only [h16, if_true]
        obtain ⟨X', a, b, d⟩ := drop_form hs h0 hy
        exact ⟨X', a, by omega, d⟩
      · simp only [h16, if_false]
        by_cases h14 : c = 14
        · simp only [h14, if_true]
          have := push_form hs h0 false 0 false
          simpa using this
        · simp only [h14, if_false]
          by_cases h15 : c = 15
          · simp only [h15, if_true]
            have := push_form hs h0 true 0 false
            simpa using this
          · simp only [h15, if_false]
            by_cases h17 : c = 17
            · simp only [h17, if_true]
              have := push_form hs h0 false 1 false
              simpa using this
            · simp only [h17, if_false]
              by_cases h18 : c = 18
              · simp only [h18, if_true]
                have := push_form hs h0 true 2 false
                simpa using this
              · simp only [h18, if_false]
                exact ⟨X, hs, by omega, h0⟩
theorem lost_step {s : TS} (h0 : 1 ≤ s.lost) (c f : Int) : stepT c f s = ⟨s.st, s.lost + del c, s.skip⟩ := by
  have hp : ∀ right side alone, pushT s right side alone = if alone = true then ⟨s.st, s.lost + 1, s.skip⟩ else s := by
    intro right side alone
    unfold pushT
    rw [if_neg (by omega)]
    cases alone <;> simp; intro h; omega
  have hs : (⟨s.st, s.lost + 0, s.skip⟩ : TS) = s := by simp
  unfold stepT del
  by_cases ho : opensB c = true
  · simp only [ho, if_true]; rw [hp]; simp
  · have ho' : opensB c = false := by simpa using ho
    simp only [ho', Bool.false_eq_true, if_false]
    by_cases h22 : c = 22
    · simp only [h22, if_true]
      unfold endT; rw [if_pos (by omega)]; rfl
    · simp only [h22, if_false]
      rw [hp, hp, hp, hp]
      have hd : dropT s = s := by unfold dropT; rw [if_pos (by omega)]
      rw [hd, hs]
      simp

section
variable {c fs : Nat → Int} {base : Int}
/-- What opens has been pushed: what is open ahead of it stays open below it. -/
theorem win_valid {i : Nat} {y : Tl} {r : List Tl} (hy : y.alone = true) (h1 : (told c fs base (i + 1)).st = y :: r) (h2 : (told c fs base (i + 1)).lost = 0) (hop : opensB (c i) = true) :
    ∀ m, 1 ≤ m → (∀ m', 1 ≤ m' → m' ≤ m → 1 ≤ dp c i m') → ∃ X, (told c fs base (i + m)).st = X ++ y :: r ∧ cntA X + (told c fs base (i + m)).lost = dp c i m - 1 ∧ 0 ≤ (told c fs base (i + m)).lost := by
  intro m
  induction m with
  | zero => intro h; omega
  | succ m ih =>
    intro _ hd
    by_cases e : m = 0
    · subst e
      have : dp c i (0 + 1) = 1 := by simp [dp, del, hop]
      rw [this]
      exact ⟨[], by simpa using h1, by show cntA [] + (told c fs base (i + 1)).lost = 1 - 1; rw [h2]; rfl, by show 0 ≤ (told c fs base (i + 1)).lost; omega⟩
    · obtain ⟨X, a1, a2, a3⟩ := ih (by omega) (fun m' x y => hd m' x (by omega))
      have q1 := hd (m + 1) (by omega) (Nat.le_refl _)
      rw [dp_succ] at q1
      obtain ⟨X', b1, b2, b3⟩ := win_step a1 a3 hy (c (i + m)) (fs (i + m)) (by omega)
      exact ⟨X', b1, by rw [dp_succ]; show cntA X' + (stepT (c (i + m)) (fs (i + m)) (told c fs base (i + m))).lost = _; omega, b3⟩
/-- It could not be pushed: nothing turns up to its end. -/
theorem win_lost {i : Nat} {s : TS} (hs0 : 0 ≤ s.lost) (h1 : told c fs base (i + 1) = ⟨s.st, s.lost + 1, s.skip⟩) (hop : opensB (c i) = true) :
    ∀ m, 1 ≤ m → (∀ m', 1 ≤ m' → m' ≤ m → 1 ≤ dp c i m') → told c fs base (i + m) = ⟨s.st, s.lost + dp c i m, s.skip⟩ := by
  intro m
  induction m with
  | zero => intro h; omega
  | succ m ih =>
    intro _ hd
    by_cases e : m = 0
    · subst e
      have : dp c i 1 = 1 := by simp [dp, del, hop]
      rw [this]; exact h1
    · have a := ih (by omega) (fun m' x y => hd m' x (by omega))
      have q0 := hd m (by omega) (by omega)
      rw [dp_succ]
      show stepT (c (i + m)) (fs (i + m)) (told c fs base (i + m)) = _
      rw [a, lost_step (by show 1 ≤ s.lost + dp c i m; omega)]
      simp only [TS.mk.injEq, true_and, and_true]
      omega
end

/-- What levels are within something that is read by itself and ends. -/
structure WinAt (c lv : Nat → Int) (i j : Nat) : Prop where
  same : lv j = lv i
  seen : 0 ≤ lv i
  within : (∀ p, i < p → p < j → 0 ≤ lv p → lv i < lv p) ∨ (∀ p, i < p → p < j → 0 ≤ lv p → lv p = lv i)

theorem mate_class {c : Nat → Int} {i j : Nat} (h : MateIs c i j) : c j = 22 ∧ dp c i (j - i) = 1 := by
  have h1 := h.pos (j - i) (by have := h.lt; omega) (Nat.le_refl _)
  have h2 := h.zero
  rw [show j + 1 - i = (j - i) + 1 by have := h.lt; omega, dp_succ, show i + (j - i) = j by have := h.lt; omega] at h2
  unfold del at h2
  by_cases a : opensB (c j) = true
  · rw [if_pos a] at h2; omega
  · rw [if_neg a] at h2
    by_cases b : c j = 22
    · rw [if_pos b] at h2; exact ⟨b, by omega⟩
    · rw [if_neg b] at h2; omega
theorem tells22 : tellsB 22 = false := by decide
theorem tells_opens {c : Int} (h : opensB c = true) : tellsB c = false ∧ c ≠ 22 := by
  simp [opensB] at h
  refine ⟨by simp [tellsB]; omega, by omega⟩
theorem step22 (f : Int) (s : TS) : stepT 22 f s = endT s := by
  unfold stepT; rw [if_neg (by decide), if_pos rfl]
theorem stepOp {c : Int} (f : Int) (s : TS) (h : opensB c = true) : stepT c f s = pushT s (rightT c f) 0 true := by
  unfold stepT; rw [if_pos h]

theorem top_app_gt {base : Int} {k : Nat} {s : TS} (hg : GoodS base k s) {X r : List Tl} {y : Tl} (h : s.st = X ++ y :: r) : y.level ≤ topL s.st := by
  cases X with
  | nil => rw [h]; exact Int.le_refl _
  | cons x X =>
    have := hg.srt
    rw [h] at this ⊢
    rw [List.cons_append] at this
    have := (List.pairwise_cons.1 this).1 y (by simp)
    show y.level ≤ x.level
    omega
theorem win_at (c fs : Nat → Int) {base : Int} (hb : 0 ≤ base ∧ base ≤ 1) {i j : Nat} (hop : opensB (c i) = true) (hm : MateIs c i j) :
    WinAt c (lvAt c fs base) i j ∧ told c fs base (j + 1) = told c fs base i := by
  have hg := good_told c fs hb i
  have hlt := hm.lt
  obtain ⟨hj22, hdj⟩ := mate_class hm
  obtain ⟨ht, hn22⟩ := tells_opens hop
  have hgt := good_top hg
  have hlvi : lvAt c fs base i = topL (told c fs base i).st := by
    unfold lvAt lvT atT; rw [if_neg (by rw [ht]; simp), if_neg hn22]
  have hs1 : told c fs base (i + 1) = pushT (told c fs base i) (rightT (c i) (fs i)) 0 true := stepOp _ _ hop
  have hlvj : lvAt c fs base j = topL (endT (told c fs base j)).st := by
    unfold lvAt lvT atT; rw [hj22, if_neg (by decide), if_pos rfl]
  have hj1 : told c fs base (j + 1) = endT (told c fs base j) := by
    show stepT _ _ _ = _; rw [hj22, step22]
  have hpos : ∀ m, m ≤ j - i → ∀ m', 1 ≤ m' → m' ≤ m → 1 ≤ dp c i m' := fun m hm1 m' a b => hm.pos m' a (by omega)
  obtain ⟨s, hs⟩ : ∃ s, told c fs base i = s := ⟨_, rfl⟩
  rw [hs] at hg hgt hlvi hs1 ⊢
  by_cases hv : upL (topL s.st) (rightT (c i) (fs i)) ≤ 20 ∧ s.lost = 0 ∧ s.skip = 0
  · unfold pushT at hs1
    rw [if_pos hv] at hs1
    have hu := upL_bd (topL s.st) (rightT (c i) (fs i))
    obtain ⟨y, hy⟩ : ∃ y : Tl, (⟨upL (topL s.st) (rightT (c i) (fs i)), 0, true⟩ : Tl) = y := ⟨_, rfl⟩
    have hya : y.alone = true := by rw [← hy]
    have hyl : y.level = upL (topL s.st) (rightT (c i) (fs i)) := by rw [← hy]
    rw [hy] at hs1
    have W := win_valid (c := c) (fs := fs) (base := base) (i := i) (y := y) (r := s.st) hya (by rw [hs1]) (by rw [hs1]; exact hv.2.1) hop
    have hend : endT (told c fs base j) = s := by
      obtain ⟨X, a1, a2, a3⟩ := W (j - i) (by omega) (hpos _ (Nat.le_refl _))
      rw [show i + (j - i) = j by omega] at a1 a2 a3
      have := cntA_nn X
      unfold endT
      rw [if_neg (by omega), if_pos (by rw [a1]; exact hasA_app X s.st y hya), a1, cutA_none s.st y hya (by omega)]
      have e1 : (told c fs base j).lost = 0 := by omega
      rw [e1]
      obtain ⟨q1, q2, q3⟩ := s
      simp at hv ⊢; omega
    refine ⟨⟨by rw [hlvj, hend, hlvi], by rw [hlvi]; omega, .inl fun p hp1 hp2 hp3 => ?_⟩, by rw [hj1, hend]⟩
    have hgp := good_told c fs hb p
    obtain ⟨X, a1, a2, a3⟩ := W (p - i) (by omega) (hpos _ (by omega))
    rw [show i + (p - i) = p by omega] at a1 a2 a3
    have hlp : lvAt c fs base p = topL (atT (c p) (told c fs base p)).st := by
      unfold lvAt lvT at hp3 ⊢
      by_cases t : tellsB (c p) = true
      · rw [if_pos t] at hp3; omega
      · rw [if_neg t]
    rw [hlp, hlvi]
    have : y.level ≤ topL (atT (c p) (told c fs base p)).st := by
      unfold atT
      split
      · rename_i e22
        have hd := hm.pos (p - i + 1) (by omega) (by omega)
        rw [dp_succ, show i + (p - i) = p by omega] at hd
        have hdel : del (c p) = -1 := by rw [e22]; decide
        obtain ⟨X', b1, b2, b3⟩ := end_form a1 a3 (by omega) hya
        exact top_app_gt (good_end hgp) b1
      · exact top_app_gt hgp a1
    omega
  · unfold pushT at hs1
    rw [if_neg hv, if_pos rfl] at hs1
    have l0 := hg.lost0
    have W := win_lost (c := c) (fs := fs) (base := base) (i := i) (s := s) l0 hs1 hop
    have hend : endT (told c fs base j) = s := by
      have a := W (j - i) (by omega) (hpos _ (Nat.le_refl _))
      rw [show i + (j - i) = j by omega, hdj] at a
      rw [a]
      unfold endT
      rw [if_pos (by show 0 < s.lost + 1; omega)]
      obtain ⟨q1, q2, q3⟩ := s
      simp
    refine ⟨⟨by rw [hlvj, hend, hlvi], by rw [hlvi]; omega, .inr fun p hp1 hp2 hp3 => ?_⟩, by rw [hj1, hend]⟩
    have a := W (p - i) (by omega) (hpos _ (by omega))
    rw [show i + (p - i) = p by omega] at a
    have hd0 := hm.pos (p - i) (by omega) (by omega)
    have hlp : lvAt c fs base p = topL (atT (c p) (told c fs base p)).st := by
      unfold lvAt lvT at hp3 ⊢
      by_cases t : tellsB (c p) = true
      · rw [if_pos t] at hp3; omega
      · rw [if_neg t]
    rw [hlp, hlvi]
    unfold atT
    split
    · rw [a]; unfold endT; rw [if_pos (by show 0 < s.lost + dp c i (p - i); omega)]
    · rw [a]
end Go.Proofs.YtgojdlbidjnmmabGreat
namespace Go.Proofs.YtgojdlbidjnmmabGreat
set_option linter.unusedSimpArgs false

/-- The level of the last letter ahead that has one; -1 if there is none. -/
def pvL (lv : Nat → Int) : Nat → Int
  | 0 => -1
  | k + 1 => if 0 ≤ lv k then lv k else pvL lv k
/-- Something of one level begins here. -/
def begB (lv : Nat → Int) (k : Nat) : Bool := decide (0 ≤ lv k ∧ pvL lv k ≠ lv k)
/-- Where what the last letter ahead is of begins. -/
def bgL (lv : Nat → Int) : Nat → Nat
  | 0 => 0
  | k + 1 => if begB lv k = true then k else bgL lv k
/-- It is of what begins at b. -/
def ofB (lv : Nat → Int) (b x : Nat) : Bool := decide (0 ≤ lv x) && bgL lv (x + 1) == b
/-- The places up to one that are of what begins at b. -/
def pieceN (lv : Nat → Int) (b k : Nat) : List Nat := (List.range k).filter (ofB lv b)
/-- The last of them. -/
def lastP (lv : Nat → Int) (b : Nat) : Nat → Nat
  | 0 => b
  | k + 1 => if ofB lv b k = true then k else lastP lv b k

theorem pv_inv (lv : Nat → Int) (k : Nat) : (pvL lv k = -1 ∧ ∀ x, x < k → lv x < 0) ∨ (0 ≤ pvL lv k ∧ pvL lv k = lv (bgL lv k) ∧ begB lv (bgL lv k) = true ∧ bgL lv k < k) := by
  induction k with
  | zero => exact .inl ⟨rfl, fun x h => by omega⟩
  | succ k ih =>
    simp only [pvL, bgL]
    by_cases hl : 0 ≤ lv k
    · rw [if_pos hl]
      by_cases hb : begB lv k = true
      · rw [if_pos hb]; exact .inr ⟨hl, rfl, hb, by omega⟩
      · rw [if_neg hb]
        have e : pvL lv k = lv k := by
          rcases Decidable.em (pvL lv k = lv k) with q | q
          · exact q
          · exact absurd (by simp [begB, hl, q]) hb
        rcases ih with ⟨a, _⟩ | ⟨a, b, d, f⟩
        · omega
        · exact .inr ⟨hl, by rw [← e]; exact b, d, by omega⟩
    · have hb : begB lv k = false := by simp [begB]; omega
      rw [if_neg hl, if_neg (by rw [hb]; simp)]
      rcases ih with ⟨a, b⟩ | ⟨a, b, d, f⟩
      · refine .inl ⟨a, fun x hx => ?_⟩
        by_cases e : x = k
        · subst e; omega
        · exact b x (by omega)
      · exact .inr ⟨a, b, d, by omega⟩
theorem beg_seen {lv : Nat → Int} {b : Nat} (h : begB lv b = true) : 0 ≤ lv b := by simp [begB] at h; exact h.1
theorem beg_pv {lv : Nat → Int} {b : Nat} (h : begB lv b = true) : pvL lv b ≠ lv b := by simp [begB] at h; exact h.2
theorem beg_no {lv : Nat → Int} {b : Nat} (h : begB lv b = false) (hs : 0 ≤ lv b) : pvL lv b = lv b := by
  rcases Decidable.em (pvL lv b = lv b) with q | q
  · exact q
  · exact absurd h (by simp [begB, hs, q])
theorem bg_beg {lv : Nat → Int} {b : Nat} (h : begB lv b = true) : bgL lv (b + 1) = b := by simp only [bgL]; rw [if_pos h]
theorem bg_stay {lv : Nat → Int} {b : Nat} (h : begB lv b = false) : bgL lv (b + 1) = bgL lv b := by simp only [bgL]; rw [if_neg (by rw [h]; simp)]
theorem bg_unseen {lv : Nat → Int} {b : Nat} (h : lv b < 0) : begB lv b = false := by simp [begB]; omega
theorem bg_le (lv : Nat → Int) (k : Nat) : bgL lv k ≤ k := by
  induction k with
  | zero => exact Nat.le_refl _
  | succ k ih => simp only [bgL]; split <;> omega
theorem bg_lt (lv : Nat → Int) (k : Nat) : bgL lv (k + 1) ≤ k := by
  have := bg_le lv k
  simp only [bgL]; split <;> omega
theorem bg_mono {lv : Nat → Int} {k m : Nat} (h : k ≤ m) : bgL lv k ≤ bgL lv m := by
  suffices hs : ∀ d, bgL lv k ≤ bgL lv (k + d) by
    have := hs (m - k); rwa [show k + (m - k) = m by omega] at this
  intro d
  induction d with
  | zero => exact Nat.le_refl _
  | succ d ih =>
    show _ ≤ bgL lv (k + d + 1)
    simp only [bgL]
    split
    · have := bg_le lv k; omega
    · exact ih
theorem of_seen {lv : Nat → Int} {b x : Nat} (h : ofB lv b x = true) : 0 ≤ lv x ∧ bgL lv (x + 1) = b := by simpa [ofB] using h
theorem of_mk {lv : Nat → Int} {b x : Nat} (h1 : 0 ≤ lv x) (h2 : bgL lv (x + 1) = b) : ofB lv b x = true := by simp [ofB, h1, h2]
/-- What a letter is of. -/
theorem of_self {lv : Nat → Int} {x : Nat} (h : 0 ≤ lv x) : ofB lv (bgL lv (x + 1)) x = true ∧ begB lv (bgL lv (x + 1)) = true ∧ lv x = lv (bgL lv (x + 1)) := by
  refine ⟨of_mk h rfl, ?_⟩
  rcases pv_inv lv (x + 1) with ⟨_, a⟩ | ⟨_, b, d, _⟩
  · have := a x (by omega); omega
  · refine ⟨d, ?_⟩
    rw [← b]; simp only [pvL]; rw [if_pos h]
theorem of_le {lv : Nat → Int} {b x : Nat} (h : ofB lv b x = true) : b ≤ x := by
  have := of_seen h; have := bg_lt lv x; omega
theorem of_beg {lv : Nat → Int} {b x : Nat} (h : ofB lv b x = true) : begB lv b = true ∧ lv x = lv b := by
  obtain ⟨h1, h2⟩ := of_seen h
  have := of_self h1
  rw [h2] at this; exact this.2
theorem of_b {lv : Nat → Int} {b : Nat} (h : begB lv b = true) : ofB lv b b = true := of_mk (beg_seen h) (bg_beg h)

theorem last_spec {lv : Nat → Int} {b n : Nat} (hb : begB lv b = true) (hn : b < n) : ofB lv b (lastP lv b n) = true ∧ lastP lv b n < n ∧ ∀ x, lastP lv b n < x → x < n → ofB lv b x = false := by
  induction n with
  | zero => omega
  | succ n ih =>
    simp only [lastP]
    by_cases h : ofB lv b n = true
    · rw [if_pos h]; exact ⟨h, by omega, fun x a c => by omega⟩
    · rw [if_neg h]
      rcases Nat.lt_or_ge b n with q | q
      · obtain ⟨a1, a2, a3⟩ := ih q
        refine ⟨a1, by omega, fun x c d => ?_⟩
        by_cases e : x = n
        · subst e; simpa using h
        · exact a3 x c (by omega)
      · have : b = n := by omega
        subst this; exact absurd (of_b hb) h
theorem last_unique {lv : Nat → Int} {b n i : Nat} (hi : ofB lv b i = true) (hin : i < n) (h : ∀ x, i < x → x < n → ofB lv b x = false) : lastP lv b n = i := by
  obtain ⟨hb, _⟩ := of_beg hi
  obtain ⟨a1, a2, a3⟩ := last_spec hb (Nat.lt_of_le_of_lt (of_le hi) hin)
  rcases Nat.lt_trichotomy (lastP lv b n) i with q | q | q
  · rw [a3 i q hin] at hi; cases hi
  · exact q
  · rw [h _ q a2] at a1; cases a1

/-- Behind something that opens, up to its end: either nothing has been seen, or it is deeper; or all is of its own level. -/
theorem win_walk {c lv : Nat → Int} {i j : Nat} (hw : WinAt c lv i j) : ∀ k, i + 1 ≤ k → k ≤ j →
    (pvL lv k = lv i ∧ bgL lv k = bgL lv (i + 1)) ∨ (lv i < pvL lv k ∧ i < bgL lv k ∧ ∀ x, i < x → x < k → 0 ≤ lv x → i < bgL lv (x + 1)) := by
  intro k
  induction k with
  | zero => intro h; omega
  | succ k ih =>
    intro h1 h2
    by_cases e : k = i
    · subst e; exact .inl ⟨by simp only [pvL]; rw [if_pos hw.seen], rfl⟩
    · have := ih (by omega) (by omega)
      by_cases hl : 0 ≤ lv k
      · have hp : pvL lv (k + 1) = lv k := by simp only [pvL]; rw [if_pos hl]
        rw [hp]
        rcases hw.within with hv | hv
        · have hk := hv k (by omega) (by omega) hl
          refine .inr ⟨hk, ?_⟩
          rcases this with ⟨a, b⟩ | ⟨a, b, d⟩
          · have hb : begB lv k = true := by simp [begB, hl, a]; omega
            rw [bg_beg hb]
            refine ⟨by omega, fun x x1 x2 x3 => ?_⟩
            by_cases ex : x = k
            · subst ex; rw [bg_beg hb]; exact x1
            · exfalso
              -- nothing has been seen ahead of k behind i
              have hg := hv x x1 (by omega) x3
              have hq : ∀ d, x + 1 + d ≤ k → lv i < pvL lv (x + 1 + d) := by
                intro d
                induction d with
                | zero => intro _; show lv i < pvL lv (x + 1); simp only [pvL]; rw [if_pos x3]; exact hg
                | succ d ihd =>
                  intro hd
                  show lv i < pvL lv (x + 1 + d + 1)
                  simp only [pvL]
                  split
                  · rename_i hs; exact hv _ (by omega) (by omega) hs
                  · exact ihd (by omega)
              have := hq (k - (x + 1)) (by omega)
              rw [show x + 1 + (k - (x + 1)) = k by omega] at this; omega
          · have hm := bg_mono (lv := lv) (show k ≤ k + 1 by omega)
            refine ⟨by omega, fun x x1 x2 x3 => ?_⟩
            by_cases ex : x = k
            · subst ex; omega
            · exact d x x1 (by omega) x3
        · have hk := hv k (by omega) (by omega) hl
          rcases this with ⟨a, b⟩ | ⟨a, b, d⟩
          · have hb : begB lv k = false := by simp [begB, hl, a, hk]
            exact .inl ⟨hk, by rw [bg_stay hb, b]⟩
          · -- cannot be: all seen are of one level
            exfalso
            have hq : ∀ k', i + 1 ≤ k' → k' ≤ k → pvL lv k' = lv i := by
              intro k'
              induction k' with
              | zero => intro z; omega
              | succ k' ihk =>
                intro z1 z2
                simp only [pvL]
                by_cases ek : k' = i
                · subst ek; rw [if_pos hw.seen]
                · split
                  · rename_i hs; exact hv k' (by omega) (by omega) hs
                  · exact ihk (by omega) (by omega)
            have := hq k (by omega) (Nat.le_refl _); omega
      · have hb : begB lv k = false := bg_unseen (by omega)
        have hp : pvL lv (k + 1) = pvL lv k := by simp only [pvL]; rw [if_neg hl]
        rw [hp, bg_stay hb]
        rcases this with ⟨a, b⟩ | ⟨a, b, d⟩
        · exact .inl ⟨a, b⟩
        · refine .inr ⟨a, b, fun x x1 x2 x3 => ?_⟩
          by_cases ex : x = k
          · subst ex; omega
          · exact d x x1 (by omega) x3
/-- What opens stands last of its piece: what ends it begins a piece. -/
theorem mate_beg {c lv : Nat → Int} {i j n b : Nat} (hw : WinAt c lv i j) (hij : i < j) (hjn : j < n) (hlast : lastP lv b n = i) (hb : begB lv b = true) (hbn : b < n) : begB lv j = true := by
  obtain ⟨a1, a2, a3⟩ := last_spec hb hbn
  rw [hlast] at a1 a2 a3
  have hs : 0 ≤ lv j := by rw [hw.same]; exact hw.seen
  rcases win_walk hw j (by omega) (Nat.le_refl _) with ⟨p, q⟩ | ⟨p, _, _⟩
  · cases h : begB lv j with
    | true => rfl
    | false =>
      exfalso
      have := a3 j hij hjn
      rw [of_mk hs (by rw [bg_stay h, q]; exact (of_seen a1).2)] at this
      cases this
  · simp [begB, hs]; rw [hw.same]; omega
/-- What ends something and begins a piece: what it ends stands last of its piece. -/
theorem mate_last {c lv : Nat → Int} {i j n : Nat} (hw : WinAt c lv i j) (hij : i < j) (hjn : j < n) (hb : begB lv j = true) : begB lv (bgL lv (i + 1)) = true ∧ lastP lv (bgL lv (i + 1)) n = i := by
  obtain ⟨s1, s2, s3⟩ := of_self hw.seen
  refine ⟨s2, last_unique s1 (by omega) fun x x1 x2 => ?_⟩
  have hle := bg_lt lv i
  rcases win_walk hw j (by omega) (Nat.le_refl _) with ⟨p, _⟩ | ⟨p, q, r⟩
  · exact absurd (by rw [p, hw.same]) (beg_pv hb)
  · cases h : ofB lv (bgL lv (i + 1)) x with
    | false => rfl
    | true =>
      exfalso
      obtain ⟨y1, y2⟩ := of_seen h
      rcases Nat.lt_or_ge x j with z | z
      · have := r x x1 z y1; omega
      · have := bg_mono (lv := lv) (show j ≤ x + 1 by omega); omega

theorem mate_inj {c : Nat → Int} {i i' j : Nat} (h : MateIs c i j) (h' : MateIs c i' j) : i = i' := by
  have hsplit : ∀ a m1 m2, dp c a (m1 + m2) = dp c a m1 + dp c (a + m1) m2 := by
    intro a m1 m2
    induction m2 with
    | zero => simp [dp]
    | succ m2 ih => rw [← Nat.add_assoc, dp_succ, ih, dp_succ, show a + (m1 + m2) = a + m1 + m2 by omega]; omega
  rcases Nat.lt_trichotomy i i' with q | q | q
  · have := h.pos (i' - i) (by omega) (by have := h'.lt; omega)
    have e := h.zero
    have e' := h'.zero
    rw [show j + 1 - i = (i' - i) + (j + 1 - i') by have := h'.lt; omega, hsplit, show i + (i' - i) = i' by omega] at e
    omega
  · exact q
  · have := h'.pos (i - i') (by omega) (by have := h.lt; omega)
    have e := h.zero
    have e' := h'.zero
    rw [show j + 1 - i' = (i - i') + (j + 1 - i) by have := h.lt; omega, hsplit, show i' + (i - i') = i by omega] at e'
    omega
end Go.Proofs.YtgojdlbidjnmmabGreat
