import Derived.Test.YtkdmfjnaajedhaaMg2
import Derived.Test.YtkdmfjnaajedhaaMg1
namespace Go.Proofs.Ytkdmfjnaajedhaa
set_option linter.unusedSimpArgs false

def cntA (l : List Tl) : Int := match l with
  | [] => 0
  | x :: r => (if x.alone = true then 1 else 0) + cntA r
theorem cntA_nn (l : List Tl) : 0 ≤ cntA l := by
  induction l with
  | nil => exact Int.le_refl _
  | cons x r ih => simp only [cntA]; split <;> omega
theorem cntA_le (l : List Tl) : cntA l ≤ l.length := by
  induction l with
  | nil => exact Int.le_refl _
  | cons x r ih => simp only [cntA, List.length_cons]; split <;> omega
theorem hasA_cnt (l : List Tl) : hasA l = true ↔ 0 < cntA l := by
  induction l with
  | nil => simp [hasA, cntA]
  | cons x r ih =>
    have := cntA_nn r
    simp only [hasA, cntA, Bool.or_eq_true, ih]
    by_cases h : x.alone = true
    · rw [if_pos h]; simp [h]; omega
    · rw [if_neg h]; simp [h]
theorem hasA_app (X r : List Tl) (y : Tl) (hy : y.alone = true) : hasA (X ++ y :: r) = true := by
  induction X with
  | nil => simp [hasA, hy]
  | cons x X ih => simp [hasA, ih]
theorem cutA_none {X : List Tl} (r : List Tl) (y : Tl) (hy : y.alone = true) (h : cntA X = 0) : cutA (X ++ y :: r) = r := by
  induction X with
  | nil => simp [cutA, hy]
  | cons x X ih =>
    have := cntA_nn X
    simp only [cntA] at h
    by_cases hx : x.alone = true
    · rw [if_pos hx] at h; omega
    · rw [if_neg hx] at h
      rw [List.cons_append, cutA, if_neg hx]
      exact ih (by omega)
theorem cutA_some {X : List Tl} (r : List Tl) (y : Tl) (h : 0 < cntA X) : ∃ X', cutA (X ++ y :: r) = X' ++ y :: r ∧ cntA X' = cntA X - 1 := by
  induction X with
  | nil => simp [cntA] at h
  | cons x X ih =>
    simp only [cntA] at h
    by_cases hx : x.alone = true
    · refine ⟨X, by rw [List.cons_append, cutA, if_pos hx], ?_⟩
      simp only [cntA]; rw [if_pos hx]; omega
    · rw [if_neg hx] at h
      obtain ⟨X', h1, h2⟩ := ih (by omega)
      refine ⟨X', by rw [List.cons_append, cutA, if_neg hx]; exact h1, ?_⟩
      simp only [cntA]; rw [if_neg hx]; omega
theorem push_form {s : TS} {X r : List Tl} {y : Tl} (hs : s.st = X ++ y :: r) (h0 : 0 ≤ s.lost) (right : Bool) (side : Int) (alone : Bool) :
    ∃ X', (pushT s right side alone).st = X' ++ y :: r ∧ cntA X' + (pushT s right side alone).lost = cntA X + s.lost + (if alone = true then 1 else 0) ∧ 0 ≤ (pushT s right side alone).lost := by
  unfold pushT
  split
  · refine ⟨⟨upL (topL s.st) right, side, alone⟩ :: X, by simp [hs], ?_, h0⟩
    simp only [cntA]; omega
  · split
    · exact ⟨X, hs, by show cntA X + (s.lost + 1) = _; omega, by show 0 ≤ s.lost + 1; omega⟩
    · split
      · exact ⟨X, hs, by show cntA X + s.lost = _; omega, h0⟩
      · exact ⟨X, hs, by omega, h0⟩
theorem end_form {s : TS} {X r : List Tl} {y : Tl} (hs : s.st = X ++ y :: r) (h0 : 0 ≤ s.lost) (hd : 1 ≤ cntA X + s.lost) (hy : y.alone = true) :
    ∃ X', (endT s).st = X' ++ y :: r ∧ cntA X' + (endT s).lost = cntA X + s.lost - 1 ∧ 0 ≤ (endT s).lost := by
  unfold endT
  split
  · exact ⟨X, hs, by show cntA X + (s.lost - 1) = _; omega, by show 0 ≤ s.lost - 1; omega⟩
  · rw [if_pos (by rw [hs]; exact hasA_app X r y hy)]
    obtain ⟨X', h1, h2⟩ := cutA_some (X := X) r y (by omega)
    exact ⟨X', by show cutA s.st = _; rw [hs, h1], by show cntA X' + s.lost = _; omega, h0⟩
theorem drop_form {s : TS} {X r : List Tl} {y : Tl} (hs : s.st = X ++ y :: r) (h0 : 0 ≤ s.lost) (hy : y.alone = true) :
    ∃ X', (dropT s).st = X' ++ y :: r ∧ cntA X' + (dropT s).lost = cntA X + s.lost ∧ 0 ≤ (dropT s).lost := by
  unfold dropT
  split
  · exact ⟨X, hs, rfl, h0⟩
  · split
    · exact ⟨X, hs, rfl, h0⟩
    · rcases dropL_cases s.st with e | ⟨a, b, t, e, ea, e2⟩
      · exact ⟨X, by show dropL s.st = _; rw [e, hs], rfl, h0⟩
      · cases X with
        | nil => rw [hs] at e; simp at e; rw [← e.1, hy] at ea; cases ea
        | cons x X =>
          rw [hs, List.cons_append] at e
          simp only [List.cons.injEq] at e
          refine ⟨X, by show dropL s.st = _; rw [e2, ← e.2], ?_, h0⟩
          show cntA X + s.lost = _
          simp only [cntA]; rw [e.1, ea]; simp
theorem win_step {s : TS} {X r : List Tl} {y : Tl} (hs : s.st = X ++ y :: r) (h0 : 0 ≤ s.lost) (hy : y.alone = true) (c f : Int) (hd : 0 ≤ cntA X + s.lost + del c) :
    ∃ X', (stepT c f s).st = X' ++ y :: r ∧ cntA X' + (stepT c f s).lost = cntA X + s.lost + del c ∧ 0 ≤ (stepT c f s).lost := by
  unfold stepT
  unfold del at hd ⊢
  by_cases ho : opensB c = true
  · simp only [ho, if_true] at hd ⊢
    have := push_form hs h0 (rightT c f) 0 true
    simpa using this
  · have ho' : opensB c = false := by simpa using ho
    simp only [ho', Bool.false_eq_true, if_false] at hd ⊢
    by_cases h22 : c = 22
    · simp only [h22, if_true] at hd ⊢
      have := end_form hs h0 (by omega) hy
      obtain ⟨X', a, b, d⟩ := this
      exact ⟨X', a, by rw [b]; omega, d⟩
    · simp only [h22, if_false] at hd ⊢
      by_cases h16 : c = 16
      · simp only [h16, if_true]
        obtain ⟨X', a, b, d⟩ := drop_form hs h0 hy
        exact ⟨X', a, by omega, d⟩
      · simp only [h16, if_false]
        by_cases h14 : c = 14
        · simp only [h14, if_true]
          have := push_form hs h0 false 0 false
          simpa using this
        · simp only [h14, if_false]
          by_cases h15 : c = 15
          · simp only [h15, if_true]
            have := push_form hs h0 true 0 false
            simpa using this
          · simp only [h15, if_false]
            by_cases h17 : c = 17
            · simp only [h17, if_true]
              have := push_form hs h0 false 1 false
              simpa using this
            · simp only [h17, if_false]
              by_cases h18 : c = 18
              · simp only [h18, if_true]
                have := push_form hs h0 true 2 false
                simpa using this
              · simp only [h18, if_false]
                exact ⟨X, hs, by omega, h0⟩
theorem lost_step {s : TS} (h0 : 1 ≤ s.lost) (c f : Int) : stepT c f s = ⟨s.st, s.lost + del c, s.skip⟩ := by
  have hp : ∀ right side alone, pushT s right side alone = if alone = true then ⟨s.st, s.lost + 1, s.skip⟩ else s := by
    intro right side alone
    unfold pushT
    rw [if_neg (by omega)]
    cases alone <;> simp; intro h; omega
  have hs : (⟨s.st, s.lost + 0, s.skip⟩ : TS) = s := by simp
  unfold stepT del
  by_cases ho : opensB c = true
  · simp only [ho, if_true]; rw [hp]; simp
  · have ho' : opensB c = false := by simpa using ho
    simp only [ho', Bool.false_eq_true, if_false]
    by_cases h22 : c = 22
    · simp only [h22, if_true]
      unfold endT; rw [if_pos (by omega)]; rfl
    · simp only [h22, if_false]
      rw [hp, hp, hp, hp]
      have hd : dropT s = s := by unfold dropT; rw [if_pos (by omega)]
      rw [hd, hs]
      simp

section
variable {c fs : Nat → Int} {base : Int}
/-- What opens has been pushed: what is open ahead of it stays open below it. -/
theorem win_valid {i : Nat} {y : Tl} {r : List Tl} (hy : y.alone = true) (h1 : (told c fs base (i + 1)).st = y :: r) (h2 : (told c fs base (i + 1)).lost = 0) (hop : opensB (c i) = true) :
    ∀ m, 1 ≤ m → (∀ m', 1 ≤ m' → m' ≤ m → 1 ≤ dp c i m') → ∃ X, (told c fs base (i + m)).st = X ++ y :: r ∧ cntA X + (told c fs base (i + m)).lost = dp c i m - 1 ∧ 0 ≤ (told c fs base (i + m)).lost := by
  intro m
  induction m with
  | zero => intro h; omega
  | succ m ih =>
    intro _ hd
    by_cases e : m = 0
    · subst e
      have : dp c i (0 + 1) = 1 := by simp [dp, del, hop]
      rw [this]
      exact ⟨[], by simpa using h1, by show cntA [] + (told c fs base (i + 1)).lost = 1 - 1; rw [h2]; rfl, by show 0 ≤ (told c fs base (i + 1)).lost; omega⟩
    · obtain ⟨X, a1, a2, a3⟩ := ih (by omega) (fun m' x y => hd m' x (by omega))
      have q1 := hd (m + 1) (by omega) (Nat.le_refl _)
      rw [dp_succ] at q1
      obtain ⟨X', b1, b2, b3⟩ := win_step a1 a3 hy (c (i + m)) (fs (i + m)) (by omega)
      exact ⟨X', b1, by rw [dp_succ]; show cntA X' + (stepT (c (i + m)) (fs (i + m)) (told c fs base (i + m))).lost = _; omega, b3⟩
/-- It could not be pushed: nothing turns up to its end. -/
theorem win_lost {i : Nat} {s : TS} (hs0 : 0 ≤ s.lost) (h1 : told c fs base (i + 1) = ⟨s.st, s.lost + 1, s.skip⟩) (hop : opensB (c i) = true) :
    ∀ m, 1 ≤ m → (∀ m', 1 ≤ m' → m' ≤ m → 1 ≤ dp c i m') → told c fs base (i + m) = ⟨s.st, s.lost + dp c i m, s.skip⟩ := by
  intro m
  induction m with
  | zero => intro h; omega
  | succ m ih =>
    intro _ hd
    by_cases e : m = 0
    · subst e
      have : dp c i 1 = 1 := by simp [dp, del, hop]
      rw [this]; exact h1
    · have a := ih (by omega) (fun m' x y => hd m' x (by omega))
      have q0 := hd m (by omega) (by omega)
      rw [dp_succ]
      show stepT (c (i + m)) (fs (i + m)) (told c fs base (i + m)) = _
      rw [a, lost_step (by show 1 ≤ s.lost + dp c i m; omega)]
      simp only [TS.mk.injEq, true_and, and_true]
      omega
end

/-- What levels are within something that is read by itself and ends. -/
structure WinAt (c lv : Nat → Int) (i j : Nat) : Prop where
  same : lv j = lv i
  seen : 0 ≤ lv i
  within : (∀ p, i < p → p < j → 0 ≤ lv p → lv i < lv p) ∨ (∀ p, i < p → p < j → 0 ≤ lv p → lv p = lv i)

theorem mate_class {c : Nat → Int} {i j : Nat} (h : MateIs c i j) : c j = 22 ∧ dp c i (j - i) = 1 := by
  have h1 := h.pos (j - i) (by have := h.lt; omega) (Nat.le_refl _)
  have h2 := h.zero
  rw [show j + 1 - i = (j - i) + 1 by have := h.lt; omega, dp_succ, show i + (j - i) = j by have := h.lt; omega] at h2
  unfold del at h2
  by_cases a : opensB (c j) = true
  · rw [if_pos a] at h2; omega
  · rw [if_neg a] at h2
    by_cases b : c j = 22
    · rw [if_pos b] at h2; exact ⟨b, by omega⟩
    · rw [if_neg b] at h2; omega
theorem tells22 : tellsB 22 = false := by decide
theorem tells_opens {c : Int} (h : opensB c = true) : tellsB c = false ∧ c ≠ 22 := by
  simp [opensB] at h
  refine ⟨by simp [tellsB]; omega, by omega⟩
theorem step22 (f : Int) (s : TS) : stepT 22 f s = endT s := by
  unfold stepT; rw [if_neg (by decide), if_pos rfl]
theorem stepOp {c : Int} (f : Int) (s : TS) (h : opensB c = true) : stepT c f s = pushT s (rightT c f) 0 true := by
  unfold stepT; rw [if_pos h]

theorem top_app_gt {base : Int} {k : Nat} {s : TS} (hg : GoodS base k s) {X r : List Tl} {y : Tl} (h : s.st = X ++ y :: r) : y.level ≤ topL s.st := by
  cases X with
  | nil => rw [h]; exact Int.le_refl _
  | cons x X =>
    have := hg.srt
    rw [h] at this ⊢
    rw [List.cons_append] at this
    have := (List.pairwise_cons.1 this).1 y (by simp)
    show y.level ≤ x.level
    omega
theorem win_at (c fs : Nat → Int) {base : Int} (hb : 0 ≤ base ∧ base ≤ 1) {i j : Nat} (hop : opensB (c i) = true) (hm : MateIs c i j) :
    WinAt c (lvAt c fs base) i j ∧ told c fs base (j + 1) = told c fs base i := by
  have hg := good_told c fs hb i
  have hlt := hm.lt
  obtain ⟨hj22, hdj⟩ := mate_class hm
  obtain ⟨ht, hn22⟩ := tells_opens hop
  have hgt := good_top hg
  have hlvi : lvAt c fs base i = topL (told c fs base i).st := by
    unfold lvAt lvT atT; rw [if_neg (by rw [ht]; simp), if_neg hn22]
  have hs1 : told c fs base (i + 1) = pushT (told c fs base i) (rightT (c i) (fs i)) 0 true := stepOp _ _ hop
  have hlvj : lvAt c fs base j = topL (endT (told c fs base j)).st := by
    unfold lvAt lvT atT; rw [hj22, if_neg (by decide), if_pos rfl]
  have hj1 : told c fs base (j + 1) = endT (told c fs base j) := by
    show stepT _ _ _ = _; rw [hj22, step22]
  have hpos : ∀ m, m ≤ j - i → ∀ m', 1 ≤ m' → m' ≤ m → 1 ≤ dp c i m' := fun m hm1 m' a b => hm.pos m' a (by omega)
  obtain ⟨s, hs⟩ : ∃ s, told c fs base i = s := ⟨_, rfl⟩
  rw [hs] at hg hgt hlvi hs1 ⊢
  by_cases hv : upL (topL s.st) (rightT (c i) (fs i)) ≤ 20 ∧ s.lost = 0 ∧ s.skip = 0
  · unfold pushT at hs1
    rw [if_pos hv] at hs1
    have hu := upL_bd (topL s.st) (rightT (c i) (fs i))
    obtain ⟨y, hy⟩ : ∃ y : Tl, (⟨upL (topL s.st) (rightT (c i) (fs i)), 0, true⟩ : Tl) = y := ⟨_, rfl⟩
    have hya : y.alone = true := by rw [← hy]
    have hyl : y.level = upL (topL s.st) (rightT (c i) (fs i)) := by rw [← hy]
    rw [hy] at hs1
    have W := win_valid (c := c) (fs := fs) (base := base) (i := i) (y := y) (r := s.st) hya (by rw [hs1]) (by rw [hs1]; exact hv.2.1) hop
    have hend : endT (told c fs base j) = s := by
      obtain ⟨X, a1, a2, a3⟩ := W (j - i) (by omega) (hpos _ (Nat.le_refl _))
      rw [show i + (j - i) = j by omega] at a1 a2 a3
      have := cntA_nn X
      unfold endT
      rw [if_neg (by omega), if_pos (by rw [a1]; exact hasA_app X s.st y hya), a1, cutA_none s.st y hya (by omega)]
      have e1 : (told c fs base j).lost = 0 := by omega
      rw [e1]
      obtain ⟨q1, q2, q3⟩ := s
      simp at hv ⊢; omega
    refine ⟨⟨by rw [hlvj, hend, hlvi], by rw [hlvi]; omega, .inl fun p hp1 hp2 hp3 => ?_⟩, by rw [hj1, hend]⟩
    have hgp := good_told c fs hb p
    obtain ⟨X, a1, a2, a3⟩ := W (p - i) (by omega) (hpos _ (by omega))
    rw [show i + (p - i) = p by omega] at a1 a2 a3
    have hlp : lvAt c fs base p = topL (atT (c p) (told c fs base p)).st := by
      unfold lvAt lvT at hp3 ⊢
      by_cases t : tellsB (c p) = true
      · rw [if_pos t] at hp3; omega
      · rw [if_neg t]
    rw [hlp, hlvi]
    have : y.level ≤ topL (atT (c p) (told c fs base p)).st := by
      unfold atT
      split
      · rename_i e22
        have hd := hm.pos (p - i + 1) (by omega) (by omega)
        rw [dp_succ, show i + (p - i) = p by omega] at hd
        have hdel : del (c p) = -1 := by rw [e22]; decide
        obtain ⟨X', b1, b2, b3⟩ := end_form a1 a3 (by omega) hya
        exact top_app_gt (good_end hgp) b1
      · exact top_app_gt hgp a1
    omega
  · unfold pushT at hs1
    rw [if_neg hv, if_pos rfl] at hs1
    have l0 := hg.lost0
    have W := win_lost (c := c) (fs := fs) (base := base) (i := i) (s := s) l0 hs1 hop
    have hend : endT (told c fs base j) = s := by
      have a := W (j - i) (by omega) (hpos _ (Nat.le_refl _))
      rw [show i + (j - i) = j by omega, hdj] at a
      rw [a]
      unfold endT
      rw [if_pos (by show 0 < s.lost + 1; omega)]
      obtain ⟨q1, q2, q3⟩ := s
      simp
    refine ⟨⟨by rw [hlvj, hend, hlvi], by rw [hlvi]; omega, .inr fun p hp1 hp2 hp3 => ?_⟩, by rw [hj1, hend]⟩
    have a := W (p - i) (by omega) (hpos _ (by omega))
    rw [show i + (p - i) = p by omega] at a
    have hd0 := hm.pos (p - i) (by omega) (by omega)
    have hlp : lvAt c fs base p = topL (atT (c p) (told c fs base p)).st := by
      unfold lvAt lvT at hp3 ⊢
      by_cases t : tellsB (c p) = true
      · rw [if_pos t] at hp3; omega
      · rw [if_neg t]
    rw [hlp, hlvi]
    unfold atT
    split
    · rw [a]; unfold endT; rw [if_pos (by show 0 < s.lost + dp c i (p - i); omega)]
    · rw [a]
end Go.Proofs.Ytkdmfjnaajedhaa
namespace Go.Proofs.Ytkdmfjnaajedhaa
set_option linter.unusedSimpArgs false

/-- The level of the last letter ahead that has one; -1 if there is none. -/
def pvL (lv : Nat → Int) : Nat → Int
  | 0 => -1
  | k + 1 => if 0 ≤ lv k then lv k else pvL lv k
/-- Something of one level begins here. -/
def begB (lv : Nat → Int) (k : Nat) : Bool := decide (0 ≤ lv k ∧ pvL lv k ≠ lv k)
/-- Where what the last letter ahead is of begins. -/
def bgL (lv : Nat → Int) : Nat → Nat
  | 0 => 0
  | k + 1 => if begB lv k = true then k else bgL lv k
/-- It is of what begins at b. -/
def ofB (lv : Nat → Int) (b x : Nat) : Bool := decide (0 ≤ lv x) && bgL lv (x + 1) == b
/-- The places up to one that are of what begins at b. -/
def pieceN (lv : Nat → Int) (b k : Nat) : List Nat := (List.range k).filter (ofB lv b)
/-- The last of them. -/
def lastP (lv : Nat → Int) (b : Nat) : Nat → Nat
  | 0 => b
  | k + 1 => if ofB lv b k = true then k else lastP lv b k

theorem pv_inv (lv : Nat → Int) (k : Nat) : (pvL lv k = -1 ∧ ∀ x, x < k → lv x < 0) ∨ (0 ≤ pvL lv k ∧ pvL lv k = lv (bgL lv k) ∧ begB lv (bgL lv k) = true ∧ bgL lv k < k) := by
  induction k with
  | zero => exact .inl ⟨rfl, fun x h => by omega⟩
  | succ k ih =>
    simp only [pvL, bgL]
    by_cases hl : 0 ≤ lv k
    · rw [if_pos hl]
      by_cases hb : begB lv k = true
      · rw [if_pos hb]; exact .inr ⟨hl, rfl, hb, by omega⟩
      · rw [if_neg hb]
        have e : pvL lv k = lv k := by
          rcases Decidable.em (pvL lv k = lv k) with q | q
          · exact q
          · exact absurd (by simp [begB, hl, q]) hb
        rcases ih with ⟨a, _⟩ | ⟨a, b, d, f⟩
        · omega
        · exact .inr ⟨hl, by rw [← e]; exact b, d, by omega⟩
    · have hb : begB lv k = false := by simp [begB]; omega
      rw [if_neg hl, if_neg (by rw [hb]; simp)]
      rcases ih with ⟨a, b⟩ | ⟨a, b, d, f⟩
      · refine .inl ⟨a, fun x hx => ?_⟩
        by_cases e : x = k
        · subst e; omega
        · exact b x (by omega)
      · exact .inr ⟨a, b, d, by omega⟩
theorem beg_seen {lv : Nat → Int} {b : Nat} (h : begB lv b = true) : 0 ≤ lv b := by simp [begB] at h; exact h.1
theorem beg_pv {lv : Nat → Int} {b : Nat} (h : begB lv b = true) : pvL lv b ≠ lv b := by simp [begB] at h; exact h.2
theorem beg_no {lv : Nat → Int} {b : Nat} (h : begB lv b = false) (hs : 0 ≤ lv b) : pvL lv b = lv b := by
  rcases Decidable.em (pvL lv b = lv b) with q | q
  · exact q
  · exact absurd h (by simp [begB, hs, q])
theorem bg_beg {lv : Nat → Int} {b : Nat} (h : begB lv b = true) : bgL lv (b + 1) = b := by simp only [bgL]; rw [if_pos h]
theorem bg_stay {lv : Nat → Int} {b : Nat} (h : begB lv b = false) : bgL lv (b + 1) = bgL lv b := by simp only [bgL]; rw [if_neg (by rw [h]; simp)]
theorem bg_unseen {lv : Nat → Int} {b : Nat} (h : lv b < 0) : begB lv b = false := by simp [begB]; omega
theorem bg_le (lv : Nat → Int) (k : Nat) : bgL lv k ≤ k := by
  induction k with
  | zero => exact Nat.le_refl _
  | succ k ih => simp only [bgL]; split <;> omega
theorem bg_lt (lv : Nat → Int) (k : Nat) : bgL lv (k + 1) ≤ k := by
  have := bg_le lv k
  simp only [bgL]; split <;> omega
theorem bg_mono {lv : Nat → Int} {k m : Nat} (h : k ≤ m) : bgL lv k ≤ bgL lv m := by
  suffices hs : ∀ d, bgL lv k ≤ bgL lv (k + d) by
    have := hs (m - k); rwa [show k + (m - k) = m by omega] at this
  intro d
  induction d with
  | zero => exact Nat.le_refl _
  | succ d ih =>
    show _ ≤ bgL lv (k + d + 1)
    simp only [bgL]
    split
    · have := bg_le lv k; omega
    · exact ih
theorem of_seen {lv : Nat → Int} {b x : Nat} (h : ofB lv b x = true) : 0 ≤ lv x ∧ bgL lv (x + 1) = b := by simpa [ofB] using h
theorem of_mk {lv : Nat → Int} {b x : Nat} (h1 : 0 ≤ lv x) (h2 : bgL lv (x + 1) = b) : ofB lv b x = true := by simp [ofB, h1, h2]
/-- What a letter is of. -/
theorem of_self {lv : Nat → Int} {x : Nat} (h : 0 ≤ lv x) : ofB lv (bgL lv (x + 1)) x = true ∧ begB lv (bgL lv (x + 1)) = true ∧ lv x = lv (bgL lv (x + 1)) := by
  refine ⟨of_mk h rfl, ?_⟩
  rcases pv_inv lv (x + 1) with ⟨_, a⟩ | ⟨_, b, d, _⟩
  · have := a x (by omega); omega
  · refine ⟨d, ?_⟩
    rw [← b]; simp only [pvL]; rw [if_pos h]
theorem of_le {lv : Nat → Int} {b x : Nat} (h : ofB lv b x = true) : b ≤ x := by
  have := of_seen h; have := bg_lt lv x; omega
theorem of_beg {lv : Nat → Int} {b x : Nat} (h : ofB lv b x = true) : begB lv b = true ∧ lv x = lv b := by
  obtain ⟨h1, h2⟩ := of_seen h
  have := of_self h1
  rw [h2] at this; exact this.2
theorem of_b {lv : Nat → Int} {b : Nat} (h : begB lv b = true) : ofB lv b b = true := of_mk (beg_seen h) (bg_beg h)

theorem last_spec {lv : Nat → Int} {b n : Nat} (hb : begB lv b = true) (hn : b < n) : ofB lv b (lastP lv b n) = true ∧ lastP lv b n < n ∧ ∀ x, lastP lv b n < x → x < n → ofB lv b x = false := by
  induction n with
  | zero => omega
  | succ n ih =>
    simp only [lastP]
    by_cases h : ofB lv b n = true
    · rw [if_pos h]; exact ⟨h, by omega, fun x a c => by omega⟩
    · rw [if_neg h]
      rcases Nat.lt_or_ge b n with q | q
      · obtain ⟨a1, a2, a3⟩ := ih q
        refine ⟨a1, by omega, fun x c d => ?_⟩
        by_cases e : x = n
        · subst e; simpa using h
        · exact a3 x c (by omega)
      · have : b = n := by omega
        subst this; exact absurd (of_b hb) h
theorem last_unique {lv : Nat → Int} {b n i : Nat} (hi : ofB lv b i = true) (hin : i < n) (h : ∀ x, i < x → x < n → ofB lv b x = false) : lastP lv b n = i := by
  obtain ⟨hb, _⟩ := of_beg hi
  obtain ⟨a1, a2, a3⟩ := last_spec hb (Nat.lt_of_le_of_lt (of_le hi) hin)
  rcases Nat.lt_trichotomy (lastP lv b n) i with q | q | q
  · rw [a3 i q hin] at hi; cases hi
  · exact q
  · rw [h _ q a2] at a1; cases a1

/-- Behind something that opens, up to its end: either nothing has been seen, or it is deeper; or all is of its own level. -/
theorem win_walk {c lv : Nat → Int} {i j : Nat} (hw : WinAt c lv i j) : ∀ k, i + 1 ≤ k → k ≤ j →
    (pvL lv k = lv i ∧ bgL lv k = bgL lv (i + 1)) ∨ (lv i < pvL lv k ∧ i < bgL lv k ∧ ∀ x, i < x → x < k → 0 ≤ lv x → i < bgL lv (x + 1)) := by
  intro k
  induction k with
  | zero => intro h; omega
  | succ k ih =>
    intro h1 h2
    by_cases e : k = i
    · subst e; exact .inl ⟨by simp only [pvL]; rw [if_pos hw.seen], rfl⟩
    · have := ih (by omega) (by omega)
      by_cases hl : 0 ≤ lv k
      · have hp : pvL lv (k + 1) = lv k := by simp only [pvL]; rw [if_pos hl]
        rw [hp]
        rcases hw.within with hv | hv
        · have hk := hv k (by omega) (by omega) hl
          refine .inr ⟨hk, ?_⟩
          rcases this with ⟨a, b⟩ | ⟨a, b, d⟩
          · have hb : begB lv k = true := by simp [begB, hl, a]; omega
            rw [bg_beg hb]
            refine ⟨by omega, fun x x1 x2 x3 => ?_⟩
            by_cases ex : x = k
            · subst ex; rw [bg_beg hb]; exact x1
            · exfalso
              -- nothing has been seen ahead of k behind i
              have hg := hv x x1 (by omega) x3
              have hq : ∀ d, x + 1 + d ≤ k → lv i < pvL lv (x + 1 + d) := by
                intro d
                induction d with
                | zero => intro _; show lv i < pvL lv (x + 1); simp only [pvL]; rw [if_pos x3]; exact hg
                | succ d ihd =>
                  intro hd
                  show lv i < pvL lv (x + 1 + d + 1)
                  simp only [pvL]
                  split
                  · rename_i hs; exact hv _ (by omega) (by omega) hs
                  · exact ihd (by omega)
              have := hq (k - (x + 1)) (by omega)
              rw [show x + 1 + (k - (x + 1)) = k by omega] at this; omega
          · have hm := bg_mono (lv := lv) (show k ≤ k + 1 by omega)
            refine ⟨by omega, fun x x1 x2 x3 => ?_⟩
            by_cases ex : x = k
            · subst ex; omega
            · exact d x x1 (by omega) x3
        · have hk := hv k (by omega) (by omega) hl
          rcases this with ⟨a, b⟩ | ⟨a, b, d⟩
          · have hb : begB lv k = false := by simp [begB, hl, a, hk]
            exact .inl ⟨hk, by rw [bg_stay hb, b]⟩
          · -- cannot be: all seen are of one level
            exfalso
            have hq : ∀ k', i + 1 ≤ k' → k' ≤ k → pvL lv k' = lv i := by
              intro k'
              induction k' with
              | zero => intro z; omega
              | succ k' ihk =>
                intro z1 z2
                simp only [pvL]
                by_cases ek : k' = i
                · subst ek; rw [if_pos hw.seen]
                · split
                  · rename_i hs; exact hv k' (by omega) (by omega) hs
                  · exact ihk (by omega) (by omega)
            have := hq k (by omega) (Nat.le_refl _); omega
      · have hb : begB lv k = false := bg_unseen (by omega)
        have hp : pvL lv (k + 1) = pvL lv k := by simp only [pvL]; rw [if_neg hl]
        rw [hp, bg_stay hb]
        rcases this with ⟨a, b⟩ | ⟨a, b, d⟩
        · exact .inl ⟨a, b⟩
        · refine .inr ⟨a, b, fun x x1 x2 x3 => ?_⟩
          by_cases ex : x = k
          · subst ex; omega
          · exact d x x1 (by omega) x3
/-- What opens stands last of its piece: what ends it begins a piece. -/
theorem mate_beg {c lv : Nat → Int} {i j n b : Nat} (hw : WinAt c lv i j) (hij : i < j) (hjn : j < n) (hlast : lastP lv b n = i) (hb : begB lv b = true) (hbn : b < n) : begB lv j = true := by
  obtain ⟨a1, a2, a3⟩ := last_spec hb hbn
  rw [hlast] at a1 a2 a3
  have hs : 0 ≤ lv j := by rw [hw.same]; exact hw.seen
  rcases win_walk hw j (by omega) (Nat.le_refl _) with ⟨p, q⟩ | ⟨p, _, _⟩
  · cases h : begB lv j with
    | true => rfl
    | false =>
      exfalso
      have := a3 j hij hjn
      rw [of_mk hs (by rw [bg_stay h, q]; exact (of_seen a1).2)] at this
      cases this
  · simp [begB, hs]; rw [hw.same]; omega
/-- What ends something and begins a piece: what it ends stands last of its piece. -/
theorem mate_last {c lv : Nat → Int} {i j n : Nat} (hw : WinAt c lv i j) (hij : i < j) (hjn : j < n) (hb : begB lv j = true) : begB lv (bgL lv (i + 1)) = true ∧ lastP lv (bgL lv (i + 1)) n = i := by
  obtain ⟨s1, s2, s3⟩ := of_self hw.seen
  refine ⟨s2, last_unique s1 (by omega) fun x x1 x2 => ?_⟩
  have hle := bg_lt lv i
  rcases win_walk hw j (by omega) (Nat.le_refl _) with ⟨p, _⟩ | ⟨p, q, r⟩
  · exact absurd (by rw [p, hw.same]) (beg_pv hb)
  · cases h : ofB lv (bgL lv (i + 1)) x with
    | false => rfl
    | true =>
      exfalso
      obtain ⟨y1, y2⟩ := of_seen h
      rcases Nat.lt_or_ge x j with z | z
      · have := r x x1 z y1; omega
      · have := bg_mono (lv := lv) (show j ≤ x + 1 by omega); omega

theorem mate_inj {c : Nat → Int} {i i' j : Nat} (h : MateIs c i j) (h' : MateIs c i' j) : i = i' := by
  have hsplit : ∀ a m1 m2, dp c a (m1 + m2) = dp c a m1 + dp c (a + m1) m2 := by
    intro a m1 m2
    induction m2 with
    | zero => simp [dp]
    | succ m2 ih => rw [← Nat.add_assoc, dp_succ, ih, dp_succ, show a + (m1 + m2) = a + m1 + m2 by omega]; omega
  rcases Nat.lt_trichotomy i i' with q | q | q
  · have := h.pos (i' - i) (by omega) (by have := h'.lt; omega)
    have e := h.zero
    have e' := h'.zero
    rw [show j + 1 - i = (i' - i) + (j + 1 - i') by have := h'.lt; omega, hsplit, show i + (i' - i) = i' by omega] at e
    omega
  · exact q
  · have := h'.pos (i - i') (by omega) (by have := h.lt; omega)
    have e := h.zero
    have e' := h'.zero
    rw [show j + 1 - i' = (i - i') + (j + 1 - i) by have := h.lt; omega, hsplit, show i' + (i - i') = i by omega] at e'
    omega
end Go.Proofs.Ytkdmfjnaajedhaa
namespace Go.Proofs.Ytkdmfjnaajedhaa
open Go.ChangeShapes Go.WideShapes Go.ChangeAt Go.RowKit
set_option linter.unusedSimpArgs false

set_option maxHeartbeats 1000000 in
theorem specMoves (r : Int) (w : World) : Calls Try.prog 80 #[.int .i64 r] w fun e w' => e = .returned (.int .i64 (moves r)) ∧ Below w.heap.size w w' := by
  go_enter Try.func80, Try.ntmps80
  go_wp2
  go_rounds 10
  all_goals (go_ret; refine ⟨ret_int ?_, by go_grown⟩)
  all_goals (unfold moves; simp only [beq_iff_eq, beq_eq_false_iff_ne, ne_eq] at *)
  all_goals (repeat (first | rfl | rw [if_pos (by omega)] | rw [if_neg (by omega)]))

set_option maxHeartbeats 1000000 in
theorem specSigns (r : Int) (w : World) : Calls Try.prog 63 #[.int .i64 r] w fun e w' => e = .returned (.int .i64 (signs r)) ∧ Below w.heap.size w w' := by
  go_enter Try.func63, Try.ntmps63
  go_wp2_with (first | (go_at_call 80; refine (specMoves _ _).mono ?_; rintro e w' ⟨rfl, hw⟩) | (go_at_call 33; refine (specIn _ _ _ _).mono ?_; rintro e w' ⟨rfl, rfl⟩))
  all_goals (go_ret; refine ⟨ret_int ?_, by first | exact hw | exact Below.refl _ _⟩)
  all_goals (try simp only [beq_iff_eq, beq_eq_false_iff_ne, ne_eq, inB, decide_eq_true_eq, decide_eq_false_iff_not] at *)
  all_goals (unfold signs)
  all_goals (repeat (first | rfl | rw [if_pos (by omega)] | rw [if_neg (by omega)]))

set_option maxHeartbeats 1000000 in
theorem specBidi (r : Int) (w : World) : Calls Try.prog 40 #[.int .i64 r] w fun e w' => e = .returned (.int .i64 (bidi r)) ∧ Below w.heap.size w w' := by
  go_enter Try.func40, Try.ntmps40
  go_wp2_with (first | (go_at_call 63; refine (specSigns _ _).mono ?_; rintro e w' ⟨rfl, hw⟩) | (go_at_call 33; refine (specIn _ _ _ _).mono ?_; rintro e w' ⟨rfl, rfl⟩))
  all_goals (go_ret; refine ⟨ret_int ?_, by first | exact hw | exact Below.refl _ _⟩)
  all_goals (try simp only [beq_iff_eq, beq_eq_false_iff_ne, ne_eq, inB, decide_eq_true_eq, decide_eq_false_iff_not] at *)
  all_goals (unfold bidi)
  all_goals (repeat (first | rfl | rw [if_pos (by omega)] | rw [if_neg (by omega)]))
end Go.Proofs.Ytkdmfjnaajedhaa
