import Derived.Test.YtgojdlbidjnmmaaGreatPlainMath
import Derived.Test.YtgojdlbidjnmmaaGreatMateMath
namespace Go.Proofs.YtgojdlbidjnmmaaGreat
set_option linter.unusedSimpArgs false

/-- A list by what stands at each place. -/
def mkL (n : Nat) (f : Nat → Int) : List Int := (List.range n).map f
theorem mkL_len (n : Nat) (f : Nat → Int) : (mkL n f).length = n := by simp [mkL]
theorem fn_mkL {n : Nat} {f : Nat → Int} {j : Nat} (h : j < n) : fn (mkL n f) j = f j := by simp [fn, mkL, h]
theorem mkL_eq {n : Nat} {f : Nat → Int} {l : List Int} (hl : l.length = n) (h : ∀ j, j < n → f j = fn l j) : mkL n f = l :=
  ext_fn (by rw [mkL_len, hl]) (fun j hj => by rw [mkL_len] at hj; rw [fn_mkL hj, h j hj])

def m1 (z : Nat → Int) (before : Int) : Nat → Int
  | 0 => if z 0 = 9 then before else z 0
  | k + 1 => if z (k + 1) = 9 then (if opensB (m1 z before k) = true ∨ m1 z before k = 22 then 13 else m1 z before k) else z (k + 1)
def strong (z : Nat → Int) (before : Int) : Nat → Int
  | 0 => before
  | k + 1 => if z k = 1 ∨ z k = 2 ∨ z k = 3 then z k else strong z before k
def m2 (z : Nat → Int) (before : Int) (k : Nat) : Int := if z k = 4 ∧ strong z before k = 3 then 7 else z k
def m3 (z : Nat → Int) (k : Nat) : Int := if z k = 3 then 2 else z k
def btw (a c b : Int) : Bool := decide (a = b ∧ (a = 4 ∧ (c = 5 ∨ c = 8) ∨ a = 7 ∧ c = 8))
def m4 (z : Nat → Int) (n : Nat) : Nat → Int
  | 0 => z 0
  | k + 1 => if k + 2 < n ∧ btw (m4 z n k) (z (k + 1)) (z (k + 2)) = true then m4 z n k else z (k + 1)
def ah6 (z : Nat → Int) : Nat → Int
  | 0 => 0
  | k + 1 => if z k = 6 then ah6 z k else z k
def bh6 (z : Nat → Int) (n : Nat) : Nat → Int
  | 0 => 0
  | d + 1 => if z (n - (d + 1)) = 6 then bh6 z n d else z (n - (d + 1))
def m5 (z : Nat → Int) (n : Nat) (k : Nat) : Int := if z k = 6 ∧ (ah6 z k = 4 ∨ bh6 z n (n - k) = 4) then 4 else z k
def m6 (z : Nat → Int) (k : Nat) : Int := if z k = 5 ∨ z k = 6 ∨ z k = 8 then 13 else z k
def m7 (z : Nat → Int) (before : Int) (k : Nat) : Int := if z k = 4 ∧ strong z before k = 1 then 1 else z k

def r1 (l : List Int) (b : Int) : List Int := mkL l.length (m1 (fn l) b)
def r2 (l : List Int) (b : Int) : List Int := mkL l.length (m2 (fn l) b)
def r3 (l : List Int) : List Int := mkL l.length (m3 (fn l))
def r4 (l : List Int) : List Int := mkL l.length (m4 (fn l) l.length)
def r5 (l : List Int) : List Int := mkL l.length (m5 (fn l) l.length)
def r6 (l : List Int) : List Int := mkL l.length (m6 (fn l))
def r7 (l : List Int) (b : Int) : List Int := mkL l.length (m7 (fn l) b)
def weakL (l : List Int) (b : Int) : List Int := r7 (r6 (r5 (r4 (r3 (r2 (r1 l b) b))))) b
def weakR (l : List Int) (b : Int) : List Int := if clsOk (fn l) l.length = true ∧ sideB b = true then weakL l b else []
theorem r1_len (l : List Int) (b : Int) : (r1 l b).length = l.length := mkL_len _ _
theorem r2_len (l : List Int) (b : Int) : (r2 l b).length = l.length := mkL_len _ _
theorem r3_len (l : List Int) : (r3 l).length = l.length := mkL_len _ _
theorem r4_len (l : List Int) : (r4 l).length = l.length := mkL_len _ _
theorem r5_len (l : List Int) : (r5 l).length = l.length := mkL_len _ _
theorem r6_len (l : List Int) : (r6 l).length = l.length := mkL_len _ _
theorem r7_len (l : List Int) (b : Int) : (r7 l b).length = l.length := mkL_len _ _
theorem weakL_len (l : List Int) (b : Int) : (weakL l b).length = l.length := by simp [weakL, r7_len, r6_len, r5_len, r4_len, r3_len, r2_len, r1_len]
theorem weakR_len (l : List Int) (b : Int) : (weakR l b).length ≤ l.length := by
  unfold weakR; split
  · rw [weakL_len]; exact Nat.le_refl _
  · simp
theorem weakR_no {l : List Int} {b : Int} (h : ¬ (clsOk (fn l) l.length = true ∧ sideB b = true)) : weakR l b = [] := by
  unfold weakR; rw [if_neg h]
theorem weakR_yes {l : List Int} {b : Int} (h : clsOk (fn l) l.length = true ∧ sideB b = true) : weakR l b = weakL l b := by
  unfold weakR; rw [if_pos h]

/-- How far a row has been done in place: ahead of f as it shall be, from f on as it was. -/
def upTo (m z : Nat → Int) (n f : Nat) (L : List Int) : Prop := (∀ j, j < f → fn L j = m j) ∧ ∀ j, f ≤ j → j < n → fn L j = z j
theorem upTo_zero (m z : Nat → Int) (n : Nat) (L : List Int) (h : ∀ j, j < n → fn L j = z j) : upTo m z n 0 L := ⟨fun j hj => by omega, fun j _ h2 => h j h2⟩
theorem upTo_keep {m z : Nat → Int} {n f : Nat} {L : List Int} (h : upTo m z n f L) (hf : f < n) (e : m f = z f) : upTo m z n (f + 1) L := by
  refine ⟨fun j hj => ?_, fun j h1 h2 => h.2 j (by omega) h2⟩
  by_cases ej : j = f
  · subst ej; rw [h.2 j (Nat.le_refl _) hf, e]
  · exact h.1 j (by omega)
theorem upTo_set {m z : Nat → Int} {n f : Nat} {L : List Int} {x : Int} (h : upTo m z n f L) (hl : L.length = n) (hf : f < n) (e : m f = x) : upTo m z n (f + 1) (L.set f x) := by
  refine ⟨fun j hj => ?_, fun j h1 h2 => by rw [fn_set_other (by omega)]; exact h.2 j (by omega) h2⟩
  by_cases ej : j = f
  · subst ej; rw [fn_set_same (by omega), e]
  · rw [fn_set_other (by omega)]; exact h.1 j (by omega)
theorem upTo_end {m z : Nat → Int} {n : Nat} {L : List Int} (h : upTo m z n n L) (hl : L.length = n) : L = mkL n m :=
  (mkL_eq hl (fun j hj => (h.1 j hj).symm)).symm

theorem ah6_run {z : Nat → Int} {f t : Nat} (hft : f ≤ t) (h : ∀ j, f ≤ j → j < t → z j = 6) : ah6 z t = ah6 z f := by
  induction t with
  | zero => have : f = 0 := by omega
            subst this; rfl
  | succ t ih =>
    by_cases e : f = t + 1
    · subst e; rfl
    · simp only [ah6]
      rw [if_pos (h t (by omega) (by omega))]
      exact ih (by omega) (fun j a b => h j a (by omega))
theorem bh6_step {z : Nat → Int} {n : Nat} {k : Nat} (hk : k < n) (h : z k = 6) : bh6 z n (n - k) = bh6 z n (n - (k + 1)) := by
  obtain ⟨m, hm⟩ : ∃ m, n - k = m + 1 := ⟨n - k - 1, by omega⟩
  have e : n - (m + 1) = k := by omega
  have e2 : n - (k + 1) = m := by omega
  rw [hm, e2]; simp only [bh6, e]; rw [if_pos h]
theorem bh6_hit {z : Nat → Int} {n : Nat} {k : Nat} (hk : k < n) (h : z k ≠ 6) : bh6 z n (n - k) = z k := by
  obtain ⟨m, hm⟩ : ∃ m, n - k = m + 1 := ⟨n - k - 1, by omega⟩
  have e : n - (m + 1) = k := by omega
  rw [hm]; simp only [bh6, e]; rw [if_neg h]
theorem bh6_run {z : Nat → Int} {n : Nat} {f t : Nat} (hft : f ≤ t) (htn : t ≤ n) (h : ∀ j, f ≤ j → j < t → z j = 6) : bh6 z n (n - f) = bh6 z n (n - t) := by
  induction t with
  | zero => have : f = 0 := by omega
            subst this; rfl
  | succ t ih =>
    by_cases e : f = t + 1
    · subst e; rfl
    · rw [ih (by omega) (by omega) (fun j a b => h j a (by omega)), bh6_step (by omega) (h t (by omega) (by omega))]
theorem m5_run {z : Nat → Int} {n : Nat} {f t : Nat} (htn : t ≤ n) (h : ∀ j, f ≤ j → j < t → z j = 6) {j : Nat} (h1 : f ≤ j) (h2 : j < t) : m5 z n j = if ah6 z f = 4 ∨ bh6 z n (n - t) = 4 then 4 else 6 := by
  unfold m5
  rw [ah6_run h1 (fun i a b => h i a (by omega)), bh6_run (f := j) (t := t) (by omega) htn (fun i a b => h i (by omega) b), h j h1 h2]
  simp

/-! What holds of the rules, one behind the other. -/
def noneOf (z : Nat → Int) (n : Nat) (s : List Int) : Prop := ∀ j, j < n → z j ∉ s
theorem m1_not9 {z : Nat → Int} {b : Int} (hb : b ≠ 9) (k : Nat) : m1 z b k ≠ 9 := by
  induction k with
  | zero => simp only [m1]; split <;> omega
  | succ k ih => simp only [m1]; split
                 · split <;> omega
                 · assumption
theorem m1_keep {z : Nat → Int} {b : Int} {k : Nat} (h : z k ≠ 9) : m1 z b k = z k := by
  cases k with
  | zero => simp [m1, h]
  | succ k => simp [m1, h]
theorem m1_in {z : Nat → Int} {b : Int} (hb : 1 ≤ b ∧ b ≤ 22) {n : Nat} (h : ∀ j, j < n → 1 ≤ z j ∧ z j ≤ 22) : ∀ k, k < n → 1 ≤ m1 z b k ∧ m1 z b k ≤ 22 := by
  intro k
  induction k with
  | zero => intro hk; simp only [m1]; split
            · exact hb
            · exact h 0 hk
  | succ k ih =>
    intro hk
    have := ih (by omega)
    simp only [m1]; split
    · split <;> omega
    · exact h _ hk
theorem m4_is {z : Nat → Int} {n k : Nat} : m4 z n k = z k ∨ ((z k = 5 ∨ z k = 8) ∧ (m4 z n k = 4 ∨ m4 z n k = 7)) := by
  cases k with
  | zero => left; rfl
  | succ k =>
    simp only [m4]
    split
    · rename_i h
      have h2 := h.2
      simp only [btw, decide_eq_true_eq] at h2
      right; omega
    · left; rfl
theorem strong_not3 {z : Nat → Int} {b : Int} {n : Nat} (hb : b ≠ 3) (h : ∀ j, j < n → z j ≠ 3) : ∀ k, k ≤ n → strong z b k ≠ 3 := by
  intro k
  induction k with
  | zero => intro _; exact hb
  | succ k ih => intro hk; simp only [strong]; split
                 · exact h k (by omega)
                 · exact ih (by omega)

/-- What all seven rules make of a class: nothing that they take away is left. -/
structure WeakIs (z x : Int) : Prop where
  left : x ≠ 3 ∧ x ≠ 5 ∧ x ≠ 6 ∧ x ≠ 8 ∧ x ≠ 9
  L : z = 1 → x = 1
  R : z = 2 ∨ z = 3 → x = 2
  cls : 1 ≤ x ∧ x ≤ 22
theorem weak_is {l : List Int} {b : Int} (hb : b = 1 ∨ b = 2) (hl : ∀ j, j < l.length → 1 ≤ fn l j ∧ fn l j ≤ 22) {k : Nat} (hk : k < l.length) : WeakIs (fn l k) (fn (weakL l b) k) := by
  have e1 : fn (r1 l b) k = m1 (fn l) b k := fn_mkL hk
  have e2 : fn (r2 (r1 l b) b) k = m2 (fn (r1 l b)) b k := fn_mkL (by rw [r1_len]; exact hk)
  have e3 : fn (r3 (r2 (r1 l b) b)) k = m3 (fn (r2 (r1 l b) b)) k := fn_mkL (by rw [r2_len, r1_len]; exact hk)
  have e4 : fn (r4 (r3 (r2 (r1 l b) b))) k = m4 (fn (r3 (r2 (r1 l b) b))) _ k := fn_mkL (by rw [r3_len, r2_len, r1_len]; exact hk)
  have e5 : fn (r5 (r4 (r3 (r2 (r1 l b) b)))) k = m5 (fn (r4 (r3 (r2 (r1 l b) b)))) _ k := fn_mkL (by rw [r4_len, r3_len, r2_len, r1_len]; exact hk)
  have e6 : fn (r6 (r5 (r4 (r3 (r2 (r1 l b) b))))) k = m6 (fn (r5 (r4 (r3 (r2 (r1 l b) b))))) k := fn_mkL (by rw [r5_len, r4_len, r3_len, r2_len, r1_len]; exact hk)
  have e7 : fn (weakL l b) k = m7 (fn (r6 (r5 (r4 (r3 (r2 (r1 l b) b)))))) b k := fn_mkL (by rw [r6_len, r5_len, r4_len, r3_len, r2_len, r1_len]; exact hk)
  have a1 := m1_not9 (z := fn l) (b := b) (by omega) k
  have b1 := m1_in (z := fn l) (b := b) (by omega) hl k hk
  have c1 : fn l k ≠ 9 → m1 (fn l) b k = fn l k := m1_keep
  have a4 := m4_is (z := fn (r3 (r2 (r1 l b) b))) (n := (r3 (r2 (r1 l b) b)).length) (k := k)
  rw [← e1] at a1 b1 c1
  rw [← e4] at a4
  unfold m2 at e2
  unfold m3 at e3
  unfold m5 at e5
  unfold m6 at e6
  unfold m7 at e7
  generalize fn (weakL l b) k = x at *
  generalize fn (r6 (r5 (r4 (r3 (r2 (r1 l b) b))))) k = x6 at *
  generalize fn (r5 (r4 (r3 (r2 (r1 l b) b)))) k = x5 at *
  generalize fn (r4 (r3 (r2 (r1 l b) b))) k = x4 at *
  generalize fn (r3 (r2 (r1 l b) b)) k = x3 at *
  generalize fn (r2 (r1 l b) b) k = x2 at *
  generalize fn (r1 l b) k = x1 at *
  generalize fn l k = x0 at *
  clear e1 e4
  have f2 : x2 = x1 ∨ (x1 = 4 ∧ x2 = 7) := by
    split at e2
    · rename_i h; exact .inr ⟨h.1, e2⟩
    · exact .inl e2
  have f3 : (x2 = 3 ∧ x3 = 2) ∨ (x2 ≠ 3 ∧ x3 = x2) := by
    split at e3
    · rename_i h; exact .inl ⟨h, e3⟩
    · rename_i h; exact .inr ⟨h, e3⟩
  have f5 : x5 = x4 ∨ (x4 = 6 ∧ x5 = 4) := by
    split at e5
    · rename_i h; exact .inr ⟨h.1, e5⟩
    · exact .inl e5
  have f6 : ((x5 = 5 ∨ x5 = 6 ∨ x5 = 8) ∧ x6 = 13) ∨ (¬ (x5 = 5 ∨ x5 = 6 ∨ x5 = 8) ∧ x6 = x5) := by
    split at e6
    · rename_i h; exact .inl ⟨h, e6⟩
    · rename_i h; exact .inr ⟨h, e6⟩
  have f7 : x = x6 ∨ (x6 = 4 ∧ x = 1) := by
    split at e7
    · rename_i h; exact .inr ⟨h.1, e7⟩
    · exact .inl e7
  clear e2 e3 e5 e6 e7
  exact ⟨by omega, fun h => by have := c1 (by omega); omega, fun h => by have := c1 (by omega); omega, by omega⟩

theorem strong_m7 {z x : Nat → Int} {b : Int} {n : Nat} (h : ∀ j, j < n → x j = m7 z b j) : ∀ k, k ≤ n → strong x b k = strong z b k := by
  intro k
  induction k with
  | zero => intro _; rfl
  | succ k ih =>
    intro hk
    have e := h k (by omega)
    have ih := ih (by omega)
    unfold m7 at e
    simp only [strong]
    by_cases q : z k = 4 ∧ strong z b k = 1
    · rw [if_pos q] at e
      rw [e, if_pos (by omega), if_neg (by omega), q.2]
    · rw [if_neg q] at e
      rw [e, ih]
/-- Again nothing changes. -/
theorem weak_again {l : List Int} {b : Int} (hb : b = 1 ∨ b = 2) (hl : ∀ j, j < l.length → 1 ≤ fn l j ∧ fn l j ≤ 22) : weakL (weakL l b) b = weakL l b := by
  obtain ⟨x, hx⟩ : ∃ x, weakL l b = x := ⟨_, rfl⟩
  have hlen : x.length = l.length := by rw [← hx, weakL_len]
  have hw : ∀ j, j < x.length → fn x j ≠ 3 ∧ fn x j ≠ 5 ∧ fn x j ≠ 6 ∧ fn x j ≠ 8 ∧ fn x j ≠ 9 := fun j hj => by
    have := (weak_is (b := b) hb hl (k := j) (by omega)).left
    rwa [hx] at this
  rw [hx]
  have q1 : r1 x b = x := mkL_eq rfl (fun j hj => m1_keep (hw j hj).2.2.2.2)
  have q2 : r2 x b = x := mkL_eq rfl (fun j hj => by
    unfold m2; rw [if_neg]; intro h; exact strong_not3 (by omega) (fun i hi => (hw i hi).1) j (by omega) h.2)
  have q3 : r3 x = x := mkL_eq rfl (fun j hj => by unfold m3; rw [if_neg (hw j hj).1])
  have q4 : r4 x = x := mkL_eq rfl (fun j hj => by
    rcases m4_is (z := fn x) (n := x.length) (k := j) with h | h
    · exact h
    · have := hw j hj; omega)
  have q5 : r5 x = x := mkL_eq rfl (fun j hj => by unfold m5; rw [if_neg (fun h => (hw j hj).2.2.1 h.1)])
  have q6 : r6 x = x := mkL_eq rfl (fun j hj => by unfold m6; rw [if_neg (by have := hw j hj; omega)])
  have q7 : r7 x b = x := mkL_eq rfl (fun j hj => by
    obtain ⟨y, hy, hyl⟩ : ∃ y : List Int, x = r7 y b ∧ y.length = x.length := ⟨_, hx.symm, by rw [hlen]; simp [r6_len, r5_len, r4_len, r3_len, r2_len, r1_len]⟩
    have hxy : ∀ i, i < x.length → fn x i = m7 (fn y) b i := fun i hi => by
      have : fn (r7 y b) i = m7 (fn y) b i := fn_mkL (by omega)
      rwa [← hy] at this
    unfold m7
    rw [if_neg]
    rintro ⟨h4, h1⟩
    rw [strong_m7 hxy j (by omega)] at h1
    have := hxy j hj
    unfold m7 at this
    by_cases q : fn y j = 4
    · rw [if_pos ⟨q, h1⟩] at this; omega
    · rw [if_neg (fun h => q h.1)] at this; omega)
  unfold weakL
  rw [q1, q2, q3, q4, q5, q6, q7]
end Go.Proofs.YtgojdlbidjnmmaaGreat
