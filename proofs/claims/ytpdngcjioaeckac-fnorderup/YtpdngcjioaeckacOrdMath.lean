import Derived.Test.YtpdngcjioaeckacBack
namespace Go.Proofs.Ytpdngcjioaeckac
set_option linter.unusedSimpArgs false

theorem stA_spec (q : Nat → Bool) (x : Nat) : (∀ y, stA q x ≤ y → y < x → q y = true) ∧ (stA q x = 0 ∨ q (stA q x - 1) = false) := by
  induction x with
  | zero => exact ⟨fun y _ h => by omega, .inl rfl⟩
  | succ x ih =>
    simp only [stA]
    split
    · rename_i h
      refine ⟨fun y h1 h2 => ?_, ih.2⟩
      by_cases e : y = x
      · subst e; exact h
      · exact ih.1 y h1 (by omega)
    · rename_i h
      exact ⟨fun y h1 h2 => by omega, .inr (by simpa using h)⟩
theorem enA_spec (q : Nat → Bool) (f x : Nat) : (∀ y, x ≤ y → y < enA q f x → q y = true) ∧ (enA q f x = x + f ∨ q (enA q f x) = false) := by
  induction f generalizing x with
  | zero => exact ⟨fun y h1 h2 => by simp [enA] at h2; omega, .inl rfl⟩
  | succ f ih =>
    simp only [enA]
    split
    · rename_i h
      obtain ⟨h1, h2⟩ := ih (x + 1)
      refine ⟨fun y a b => ?_, ?_⟩
      · by_cases e : y = x
        · subst e; exact h
        · exact h1 y (by omega) b
      · rcases h2 with h2 | h2
        · exact .inl (by omega)
        · exact .inr h2
    · rename_i h
      exact ⟨fun y a b => by omega, .inr (by simpa using h)⟩
/-- The stretch of a place. -/
theorem stretch {q : Nat → Bool} {n x : Nat} (hx : x < n) (hq : q x = true) : ∃ s e, s ≤ x ∧ x < e ∧ e ≤ n ∧ (∀ y, s ≤ y → y < e → q y = true) ∧ (s = 0 ∨ q (s - 1) = false) ∧ (e = n ∨ q e = false) := by
  refine ⟨stA q x, enA q (n - x) x, stA_le q x, ?_, ?_, ?_, (stA_spec q x).2, ?_⟩
  · obtain ⟨f, hf⟩ : ∃ f, n - x = f + 1 := ⟨n - x - 1, by omega⟩
    rw [hf]; simp only [enA]; rw [if_pos hq]; have := (enA_bounds q f (x + 1)).1; omega
  · have := (enA_bounds q (n - x) x).2; omega
  · intro y h1 h2
    by_cases e : y < x
    · exact (stA_spec q x).1 y h1 e
    · exact (enA_spec q (n - x) x).1 y (by omega) h2
  · rcases (enA_spec q (n - x) x).2 with h | h
    · exact .inl (by omega)
    · exact .inr h
/-- Where what stands at a place has stood. -/
def turnTo (q : Nat → Bool) (n x : Nat) : Nat := if q x = true then stA q x + enA q (n - x) x - 1 - x else x
theorem turnTo_in {q : Nat → Bool} {n s e x : Nat} (hs : s ≤ x) (he : x < e) (hn : e ≤ n) (hin : ∀ y, s ≤ y → y < e → q y = true) (hb : s = 0 ∨ q (s - 1) = false) (hb2 : e = n ∨ q e = false) : turnTo q n x = s + e - 1 - x := by
  unfold turnTo
  rw [if_pos (hin x hs he), stA_is hs (fun y a b => hin y a (by omega)) hb, enA_is (by omega) hn (fun y a b => hin y (by omega) b) hb2]
theorem turnTo_lt {q : Nat → Bool} {n x : Nat} (hx : x < n) : turnTo q n x < n := by
  by_cases hq : q x = true
  · obtain ⟨s, e, h1, h2, h3, h4, h5, h6⟩ := stretch hx hq
    rw [turnTo_in h1 h2 h3 h4 h5 h6]; omega
  · simp [turnTo, hq]; exact hx
theorem turnTo_twice {q : Nat → Bool} {n x : Nat} (hx : x < n) : turnTo q n (turnTo q n x) = x := by
  by_cases hq : q x = true
  · obtain ⟨s, e, h1, h2, h3, h4, h5, h6⟩ := stretch hx hq
    rw [turnTo_in h1 h2 h3 h4 h5 h6, turnTo_in (by omega) (by omega) h3 h4 h5 h6]; omega
  · simp [turnTo, hq]
theorem fn_turnTo {q : Nat → Bool} {l : List Int} {x : Nat} (h : x < l.length) : fn (turned q l) x = fn l (turnTo q l.length x) := by
  rw [fn_turned h]; unfold turnAt turnTo; split <;> rfl

/-- An order: each place that is seen stands in it once. -/
structure Ord (lv : List Int) (o : List Int) : Prop where
  inn : ∀ x, x < o.length → 0 ≤ fn o x ∧ fn o x < (lv.length : Int) ∧ 0 ≤ fn lv (fn o x).toNat
  inj : ∀ x y, x < o.length → y < o.length → fn o x = fn o y → x = y
  all : ∀ j, j < lv.length → 0 ≤ fn lv j → ∃ x, x < o.length ∧ fn o x = (j : Int)
theorem Ord.turned {lv o : List Int} (h : Ord lv o) (q : Nat → Bool) : Ord lv (turned q o) := by
  refine ⟨fun x hx => ?_, fun x y hx hy e => ?_, fun j hj h0 => ?_⟩
  · rw [turned_len] at hx
    rw [fn_turnTo hx]
    exact h.inn _ (turnTo_lt hx)
  · rw [turned_len] at hx hy
    rw [fn_turnTo hx, fn_turnTo hy] at e
    have := h.inj _ _ (turnTo_lt hx) (turnTo_lt hy) e
    rw [← turnTo_twice (q := q) hx, this, turnTo_twice hy]
  · obtain ⟨x, hx, e⟩ := h.all j hj h0
    exact ⟨turnTo q o.length x, by rw [turned_len]; exact turnTo_lt hx, by rw [fn_turnTo (turnTo_lt hx), turnTo_twice hx, e]⟩
theorem Ord.all_turns {lv : List Int} (m : Nat) {o : List Int} (h : Ord lv o) : Ord lv (ordN lv m o) := by
  induction m generalizing o with
  | zero => exact h
  | succ m ih => simp only [ordN]; exact ih (h.turned _)
theorem fn_snoc (o : List Int) (x : Int) : fn (o ++ [x]) o.length = x := by simp [fn]
theorem ord0_facts (z : Nat → Int) (k : Nat) : (∀ x, x < (ord0 z k).length → 0 ≤ fn (ord0 z k) x ∧ fn (ord0 z k) x < (k : Int) ∧ 0 ≤ z (fn (ord0 z k) x).toNat) ∧
    (∀ x y, x < (ord0 z k).length → y < (ord0 z k).length → fn (ord0 z k) x = fn (ord0 z k) y → x = y) ∧ ∀ j, j < k → 0 ≤ z j → fn (ord0 z k) (ord0 z j).length = (j : Int) ∧ (ord0 z j).length < (ord0 z k).length := by
  induction k with
  | zero => simp [ord0]
  | succ k ih =>
    obtain ⟨h1, h2, h3⟩ := ih
    simp only [ord0]
    split
    · rename_i h0
      refine ⟨fun x hx => ?_, fun x y hx hy e => ?_, fun j hj hz => ?_⟩
      · simp at hx
        by_cases e : x = (ord0 z k).length
        · subst e; rw [fn_snoc]; simp; exact ⟨by omega, h0⟩
        · rw [fn_append_left (by omega)]; have := h1 x (by omega); omega
      · simp at hx hy
        by_cases ex : x = (ord0 z k).length
        · by_cases ey : y = (ord0 z k).length
          · omega
          · exfalso
            rw [ex, fn_snoc, fn_append_left (by omega)] at e
            have := h1 y (by omega); omega
        · by_cases ey : y = (ord0 z k).length
          · exfalso
            rw [ey, fn_snoc, fn_append_left (by omega)] at e
            have := h1 x (by omega); omega
          · rw [fn_append_left (by omega), fn_append_left (by omega)] at e
            exact h2 x y (by omega) (by omega) e
      · by_cases e : j = k
        · subst e; rw [fn_snoc]; simp
        · obtain ⟨a, b⟩ := h3 j (by omega) hz
          rw [fn_append_left b]; simp; exact ⟨a, by omega⟩
    · rename_i h0
      refine ⟨fun x hx => ?_, h2, fun j hj hz => ?_⟩
      · have := h1 x hx; omega
      · by_cases e : j = k
        · subst e; exact absurd hz h0
        · exact h3 j (by omega) hz
theorem ord0_ord (lv : List Int) : Ord lv (ord0 (fn lv) lv.length) := by
  obtain ⟨h1, h2, h3⟩ := ord0_facts (fn lv) lv.length
  exact ⟨h1, h2, fun j hj h0 => ⟨_, (h3 j hj h0).2, (h3 j hj h0).1⟩⟩
theorem orderL_ord (lv : List Int) : Ord lv (orderL lv) := (ord0_ord lv).all_turns _
theorem orderL_len (lv : List Int) : (orderL lv).length = (ord0 (fn lv) lv.length).length := by unfold orderL; rw [ordN_len]

theorem backF_at {n : Nat} {o : List Int} (hin : ∀ x, x < o.length → 0 ≤ fn o x ∧ fn o x < (n : Int)) (hj : ∀ x y, x < o.length → y < o.length → fn o x = fn o y → x = y) (k : Nat) (hk : k ≤ o.length) :
    (∀ x, x < k → fn (backF n o k) (fn o x).toNat = (x : Int)) ∧ ∀ p, p < n → (∀ x, x < k → fn o x ≠ (p : Int)) → fn (backF n o k) p = -1 := by
  induction k with
  | zero => exact ⟨fun x hx => by omega, fun p hp _ => by simp only [backF]; exact fn_rep hp⟩
  | succ k ih =>
    obtain ⟨h1, h2⟩ := ih (by omega)
    have hk0 := hin k (by omega)
    have hl := backF_len n o k
    simp only [backF]
    refine ⟨fun x hx => ?_, fun p hp hne => ?_⟩
    · by_cases e : x = k
      · subst e; rw [fn_set_same (by omega)]
      · have hx0 := hin x (by omega)
        rw [fn_set_other (fun e2 => e (hj x k (by omega) (by omega) (by omega)))]
        exact h1 x (by omega)
    · have := hne k (by omega)
      rw [fn_set_other (by omega)]
      exact h2 p hp (fun x hx => hne x (by omega))
/-- What the law asks of a place. -/
theorem back_is (lv : List Int) {i : Nat} (hi : i < lv.length) :
    (fn lv i < 0 → fn (backF lv.length (orderL lv) (orderL lv).length) i = -1) ∧ (0 ≤ fn lv i → ∃ x : Nat, x < (orderL lv).length ∧ fn (backF lv.length (orderL lv) (orderL lv).length) i = (x : Int) ∧ fn (orderL lv) x = (i : Int)) := by
  have ho := orderL_ord lv
  obtain ⟨h1, h2⟩ := backF_at (n := lv.length) (fun x hx => ⟨(ho.inn x hx).1, (ho.inn x hx).2.1⟩) ho.inj _ (Nat.le_refl _)
  refine ⟨fun h => h2 i hi (fun x hx e => ?_), fun h => ?_⟩
  · have := (ho.inn x hx).2.2
    rw [e] at this; simp at this; omega
  · obtain ⟨x, hx, e⟩ := ho.all i hi h
    refine ⟨x, hx, ?_, e⟩
    have := h1 x hx
    rw [e] at this; simpa using this
end Go.Proofs.Ytpdngcjioaeckac
