import Derived.Test.YtgojdlbidjnmmaaGreatMateMath
namespace Go.Proofs.YtgojdlbidjnmmaaGreat
set_option linter.unusedSimpArgs false

/-- What is told at a moment: a level, a side that counts for all, 0 for none, and whether it is read by itself. -/
structure Tl where
  level : Int
  side : Int
  alone : Bool
/-- The levels that are open, the last one first, and how many could not be pushed. -/
structure TS where
  st : List Tl
  lost : Int
  skip : Int

def topL (s : List Tl) : Int := match s with | [] => 0 | x :: _ => x.level
def topS (s : List Tl) : Int := match s with | [] => 0 | x :: _ => x.side
def topA (s : List Tl) : Bool := match s with | [] => false | x :: _ => x.alone
def upL (lv : Int) (right : Bool) : Int := if right = decide (lv % 2 = 0) then lv + 1 else lv + 2
def pushT (s : TS) (right : Bool) (side : Int) (alone : Bool) : TS :=
  if upL (topL s.st) right ≤ 20 ∧ s.lost = 0 ∧ s.skip = 0 then ⟨⟨upL (topL s.st) right, side, alone⟩ :: s.st, s.lost, s.skip⟩
  else if alone = true then ⟨s.st, s.lost + 1, s.skip⟩
  else if s.lost = 0 then ⟨s.st, s.lost, s.skip + 1⟩ else s
def hasA : List Tl → Bool
  | [] => false
  | x :: r => x.alone || hasA r
def cutA : List Tl → List Tl
  | [] => []
  | x :: r => if x.alone = true then r else cutA r
def endT (s : TS) : TS :=
  if 0 < s.lost then ⟨s.st, s.lost - 1, s.skip⟩ else if hasA s.st = true then ⟨cutA s.st, s.lost, 0⟩ else s
def dropL (s : List Tl) : List Tl := match s with
  | x :: y :: r => if x.alone = true then x :: y :: r else y :: r
  | r => r
def dropT (s : TS) : TS :=
  if 0 < s.lost then s else if 0 < s.skip then ⟨s.st, s.lost, s.skip - 1⟩ else ⟨dropL s.st, s.lost, s.skip⟩
def rightT (c fsi : Int) : Bool := decide (c = 20 ∨ (c = 21 ∧ fsi = 1))
def stepT (c fsi : Int) (s : TS) : TS :=
  if opensB c = true then pushT s (rightT c fsi) 0 true
  else if c = 22 then endT s
  else if c = 16 then dropT s
  else if c = 14 then pushT s false 0 false
  else if c = 15 then pushT s true 0 false
  else if c = 17 then pushT s false 1 false
  else if c = 18 then pushT s true 2 false
  else s
def tellsB (c : Int) : Bool := decide (c = 10 ∨ (14 ≤ c ∧ c ≤ 18))
def atT (c : Int) (s : TS) : TS := if c = 22 then endT s else s
def lvT (c : Int) (s : TS) : Int := if tellsB c = true then -1 else topL (atT c s).st
/-- The class of a letter: the side that counts for all, if there is one. -/
def sdT (s : List Tl) (c : Int) : Int := if topS s ≠ 0 then topS s else c
def clT (c : Int) (s : TS) : Int := if tellsB c = true then 0 else sdT (atT c s).st c
def told (c fs : Nat → Int) (base : Int) : Nat → TS
  | 0 => ⟨[⟨base, 0, false⟩], 0, 0⟩
  | k + 1 => stepT (c k) (fs k) (told c fs base k)
def lvAt (c fs : Nat → Int) (base : Int) (k : Nat) : Int := lvT (c k) (told c fs base k)
def clAt (c fs : Nat → Int) (base : Int) (k : Nat) : Int := clT (c k) (told c fs base k)

def lvSet (c : Int) (s : TS) (lv : List Int) (i : Nat) : List Int := if tellsB c = true then lv else lv.set i (topL (atT c s).st)
def clSet (c : Int) (s : TS) (cls : List Int) (i : Nat) : List Int := if tellsB c = true then cls else cls.set i (sdT (atT c s).st c)
/-- Levels that ascend, from what was at first. -/
structure GoodS (base : Int) (k : Nat) (s : TS) : Prop where
  last : ∃ r, s.st = r ++ [⟨base, 0, false⟩]
  srt : s.st.Pairwise (fun x y => y.level < x.level)
  le : ∀ x ∈ s.st, base ≤ x.level ∧ x.level ≤ 20
  lost0 : 0 ≤ s.lost
  lostk : s.lost ≤ k
  skip0 : 0 ≤ s.skip
  skipk : s.skip ≤ k
  len : s.st.length ≤ k + 1

theorem upL_bd (lv : Int) (r : Bool) : lv + 1 ≤ upL lv r ∧ upL lv r ≤ lv + 2 := by unfold upL; split <;> omega
theorem good_ne {base : Int} {k : Nat} {s : TS} (h : GoodS base k s) : ∃ x r, s.st = x :: r := by
  obtain ⟨r, hr⟩ := h.last
  cases r with
  | nil => exact ⟨_, _, hr⟩
  | cons x r => exact ⟨_, _, hr⟩
theorem good_mono {base : Int} {k k' : Nat} {s : TS} (h : GoodS base k s) (hk : k ≤ k') : GoodS base k' s :=
  ⟨h.last, h.srt, h.le, h.lost0, by have := h.lostk; omega, h.skip0, by have := h.skipk; omega, by have := h.len; omega⟩
theorem good_zero {base : Int} (hb : 0 ≤ base ∧ base ≤ 1) : GoodS base 0 ⟨[⟨base, 0, false⟩], 0, 0⟩ :=
  ⟨⟨[], rfl⟩, by simp, by simp; omega, by simp, by simp, by simp, by simp, by simp⟩
theorem good_push {base : Int} {k : Nat} {s : TS} (h : GoodS base k s) (right : Bool) (side : Int) (alone : Bool) : GoodS base (k + 1) (pushT s right side alone) := by
  unfold pushT
  obtain ⟨x, r, hx⟩ := good_ne h
  have l0 := h.lost0; have lk := h.lostk; have s0 := h.skip0; have sk := h.skipk
  split
  · rename_i hc
    have hu := upL_bd (topL s.st) right
    have ht : topL s.st = x.level := by rw [hx]; rfl
    have hbx := (h.le x (by rw [hx]; simp)).1
    refine ⟨?_, ?_, ?_, by simpa using l0, by show s.lost ≤ _; omega, s0, by show s.skip ≤ _; omega, by have := h.len; simp; omega⟩
    · obtain ⟨q, hq⟩ := h.last; exact ⟨_ :: q, by rw [hq]; rfl⟩
    · refine List.Pairwise.cons ?_ h.srt
      intro y hy
      have hs := h.srt
      rw [hx] at hs hy
      have : y.level ≤ x.level := by
        rcases List.mem_cons.1 hy with e | e
        · rw [e]; exact Int.le_refl _
        · exact Int.le_of_lt ((List.pairwise_cons.1 hs).1 y e)
      show y.level < upL _ _
      omega
    · intro y hy
      rcases List.mem_cons.1 hy with e | e
      · subst e; show base ≤ upL _ _ ∧ upL _ _ ≤ 20; omega
      · exact h.le y e
  · split
    · exact ⟨h.last, h.srt, h.le, by show 0 ≤ s.lost + 1; omega, by show s.lost + 1 ≤ _; omega, s0, by show s.skip ≤ _; omega, by have := h.len; show s.st.length ≤ _; omega⟩
    · split
      · exact ⟨h.last, h.srt, h.le, l0, by show s.lost ≤ _; omega, by show 0 ≤ s.skip + 1; omega, by show s.skip + 1 ≤ _; omega, by have := h.len; show s.st.length ≤ _; omega⟩
      · exact good_mono h (by omega)
theorem cutA_suffix (l : List Tl) : ∃ p, l = p ++ cutA l := by
  induction l with
  | nil => exact ⟨[], rfl⟩
  | cons x r ih =>
    simp only [cutA]
    split
    · exact ⟨[x], rfl⟩
    · obtain ⟨p, hp⟩ := ih; exact ⟨x :: p, by rw [List.cons_append, ← hp]⟩
theorem cutA_last {base : Int} {r l : List Tl} (h : l = r ++ [⟨base, 0, false⟩]) (ha : hasA l = true) : ∃ r', cutA l = r' ++ [⟨base, 0, false⟩] := by
  induction l generalizing r with
  | nil => simp at h
  | cons x t ih =>
    cases r with
    | nil =>
      simp at h; obtain ⟨rfl, rfl⟩ := h
      simp [hasA] at ha
    | cons y r =>
      simp at h; obtain ⟨rfl, h⟩ := h
      simp only [cutA]
      split
      · exact ⟨r, h⟩
      · rename_i hx
        refine ih h ?_
        simp only [hasA, Bool.or_eq_true] at ha
        rcases ha with ha | ha
        · exact absurd ha hx
        · exact ha
theorem good_end {base : Int} {k : Nat} {s : TS} (h : GoodS base k s) : GoodS base k (endT s) := by
  unfold endT
  have l0 := h.lost0; have lk := h.lostk; have s0 := h.skip0; have sk := h.skipk
  split
  · exact ⟨h.last, h.srt, h.le, by show 0 ≤ s.lost - 1; omega, by show s.lost - 1 ≤ _; omega, s0, sk, h.len⟩
  · split
    · rename_i ha
      obtain ⟨p, hp⟩ := cutA_suffix s.st
      obtain ⟨r, hr⟩ := h.last
      have hs := h.srt
      rw [hp, List.pairwise_append] at hs
      refine ⟨cutA_last hr ha, hs.2.1, fun x hx => h.le x (by rw [hp]; exact List.mem_append_right _ hx), l0, lk, by simp, by show (0 : Int) ≤ _; omega, ?_⟩
      have := h.len
      rw [hp, List.length_append] at this
      show (cutA s.st).length ≤ _; omega
    · exact h
theorem dropL_cases (l : List Tl) : dropL l = l ∨ ∃ x y r, l = x :: y :: r ∧ x.alone = false ∧ dropL l = y :: r := by
  match l with
  | [] => exact .inl rfl
  | [x] => exact .inl rfl
  | x :: y :: r =>
    simp only [dropL]
    split
    · exact .inl rfl
    · rename_i h; exact .inr ⟨x, y, r, rfl, by simpa using h, rfl⟩
theorem good_drop {base : Int} {k : Nat} {s : TS} (h : GoodS base k s) : GoodS base k (dropT s) := by
  unfold dropT
  have l0 := h.lost0; have lk := h.lostk; have s0 := h.skip0; have sk := h.skipk
  split
  · exact h
  · split
    · exact ⟨h.last, h.srt, h.le, l0, lk, by show 0 ≤ s.skip - 1; omega, by show s.skip - 1 ≤ _; omega, h.len⟩
    · rcases dropL_cases s.st with e | ⟨x, y, r, e, _, e2⟩
      · rw [e]; exact h
      · rw [e2]
        have hs := h.srt
        have hle := h.le
        have hln := h.len
        rw [e] at hs hle hln
        refine ⟨?_, (List.pairwise_cons.1 hs).2, fun z hz => hle z (List.mem_cons_of_mem _ hz), l0, lk, s0, sk, ?_⟩
        · obtain ⟨q, hq⟩ := h.last
          rw [e] at hq
          cases q with
          | nil => simp at hq
          | cons a q => simp at hq; exact ⟨q, hq.2⟩
        · simp only [List.length_cons] at hln; show (y :: r).length ≤ _; simp only [List.length_cons]; omega
theorem good_step {base : Int} {k : Nat} {s : TS} (h : GoodS base k s) (c f : Int) : GoodS base (k + 1) (stepT c f s) := by
  unfold stepT
  split
  · exact good_push h _ _ _
  · split
    · exact good_mono (good_end h) (by omega)
    · split
      · exact good_mono (good_drop h) (by omega)
      · split
        · exact good_push h _ _ _
        · split
          · exact good_push h _ _ _
          · split
            · exact good_push h _ _ _
            · split
              · exact good_push h _ _ _
              · exact good_mono h (by omega)
theorem good_told (c fs : Nat → Int) {base : Int} (hb : 0 ≤ base ∧ base ≤ 1) (k : Nat) : GoodS base k (told c fs base k) := by
  induction k with
  | zero => exact good_zero hb
  | succ k ih => exact good_step ih _ _
theorem good_at {base : Int} {k : Nat} {s : TS} (h : GoodS base k s) (c : Int) : GoodS base k (atT c s) := by
  unfold atT; split
  · exact good_end h
  · exact h
theorem good_top {base : Int} {k : Nat} {s : TS} (h : GoodS base k s) : base ≤ topL s.st ∧ topL s.st ≤ 20 := by
  obtain ⟨x, r, hx⟩ := good_ne h
  have := h.le x (by rw [hx]; simp)
  rw [hx]; exact this
theorem lvAt_bd (c fs : Nat → Int) {base : Int} (hb : 0 ≤ base ∧ base ≤ 1) (k : Nat) : (tellsB (c k) = true ∧ lvAt c fs base k = -1) ∨ (tellsB (c k) = false ∧ base ≤ lvAt c fs base k ∧ lvAt c fs base k ≤ 20) := by
  unfold lvAt lvT
  cases h : tellsB (c k) with
  | true => exact .inl ⟨rfl, if_pos rfl⟩
  | false =>
    have := good_top (good_at (good_told c fs hb k) (c k))
    exact .inr ⟨rfl, by rw [if_neg (by simp)]; exact this⟩
end Go.Proofs.YtgojdlbidjnmmaaGreat
