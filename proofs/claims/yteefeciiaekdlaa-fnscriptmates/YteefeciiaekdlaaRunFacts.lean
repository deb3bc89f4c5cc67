import Derived.Test.YteefeciiaekdlaaRunMath
namespace Go.Proofs.Yteefeciiaekdlaa
set_option linter.unusedSimpArgs false

/-- What is known of the runs that are shut. -/
structure Pre (z : Nat → Int) (F : List Int) (m : Nat) (f : Int) : Prop where
  len : F.length = m * 3
  pos : ∀ i, i < m → 0 ≤ fn F (i * 3) ∧ fn F (i * 3) < fn F (i * 3 + 1) ∧ fn F (i * 3 + 1) ≤ f
  first : (m = 0 → f = 0) ∧ (0 < m → fn F 0 = 0)
  next : ∀ i, i + 1 < m → fn F ((i + 1) * 3) = fn F (i * 3 + 1) ∧ fn F (i * 3 + 2) ≠ fn F ((i + 1) * 3 + 2)
  last : ∀ i, i + 1 = m → fn F (i * 3 + 1) = f
  ins : ∀ i, i < m → ∀ p : Nat, fn F (i * 3) ≤ (p : Int) → (p : Int) < fn F (i * 3 + 1) → 0 ≤ z p → z p = fn F (i * 3 + 2)
/-- .. and of the last one. -/
structure Fin1 (z : Nat → Int) (F : List Int) (m : Nat) (f V : Int) (k : Nat) : Prop where
  lo : 0 ≤ f
  lt : f < (k : Int)
  neg : V < 0 → m = 0 ∧ ∀ p, p < k → z p < 0
  ne : ∀ i, i + 1 = m → fn F (i * 3 + 2) ≠ V
  ins : ∀ p : Nat, f ≤ (p : Int) → p < k → 0 ≤ z p → z p = V
theorem fn_e0 (F : List Int) (a b c : Int) : fn (F ++ [a, b, c]) F.length = a := by simp [fn, List.getD]
theorem fn_e1 (F : List Int) (a b c : Int) : fn (F ++ [a, b, c]) (F.length + 1) = b := by simp [fn, List.getD]
theorem Pre.shut {z : Nat → Int} {F : List Int} {m : Nat} {f V : Int} {k : Nat} (h : Pre z F m f) (e : Fin1 z F m f V k) : Pre z (F ++ [f, (k : Int), V]) (m + 1) (k : Int) := by
  have hl := h.len
  have a0 := fn_e0 F f k V
  have a1 := fn_e1 F f k V
  have a2 := fn_end F f k V
  rw [hl] at a0 a1 a2
  have old : ∀ j, j < m * 3 → fn (F ++ [f, (k : Int), V]) j = fn F j := fun j hj => fn_append_left (by omega)
  have := e.lt
  have := e.lo
  refine ⟨by simp [hl]; omega, fun i hi => ?_, ⟨fun c => by omega, fun _ => ?_⟩, fun i hi => ?_, fun i hi => ?_, fun i hi p => ?_⟩
  · by_cases c : i = m
    · subst c; rw [a0, a1]; omega
    · rw [old _ (by omega), old _ (by omega)]; have := h.pos i (by omega); omega
  · by_cases c : m = 0
    · subst c; rw [show fn (F ++ [f, (k : Int), V]) 0 = f from a0]; exact h.first.1 rfl
    · rw [old _ (by omega)]; exact h.first.2 (by omega)
  · by_cases c : i + 1 = m
    · rw [old (i * 3 + 1) (by omega), old (i * 3 + 2) (by omega), c, a0, a2]
      exact ⟨(h.last i c).symm, e.ne i c⟩
    · rw [old _ (by omega), old _ (by omega), old _ (by omega), old _ (by omega)]; exact h.next i (by omega)
  · have c : i = m := by omega
    subst c; exact a1
  · by_cases c : i = m
    · subst c; rw [a0, a1, a2]; exact fun h1 h2 h3 => e.ins p h1 (by omega) h3
    · rw [old _ (by omega), old _ (by omega), old _ (by omega)]; exact h.ins i (by omega) p
theorem rS_good {z : Nat → Int} (k : Nat) (hk : 1 ≤ k) : ∃ m, Pre z (rS z k).1 m (rS z k).2.1 ∧ Fin1 z (rS z k).1 m (rS z k).2.1 (rS z k).2.2 k := by
  induction k with
  | zero => omega
  | succ k ih =>
    by_cases h0 : k = 0
    · subst h0
      refine ⟨0, ?_, ?_⟩
      · simp only [rS]
        exact ⟨rfl, fun i hi => by omega, ⟨fun _ => rfl, fun c => by omega⟩, fun i hi => by omega, fun i hi => by omega, fun i hi => by omega⟩
      · simp only [rS]
        refine ⟨by simp, by simp, fun c => ⟨rfl, fun p hp => ?_⟩, fun i hi => by omega, fun p _ hp _ => ?_⟩
        · have : p = 0 := by omega
          subst this; simpa using c
        · have : p = 0 := by omega
          subst this; simp
    · obtain ⟨m, hp, hf⟩ := ih (by omega)
      simp only [rS]
      by_cases hV : (rS z k).2.2 < 0
      · rw [if_pos hV]
        obtain ⟨rfl, hneg⟩ := hf.neg hV
        refine ⟨0, hp, hf.lo, by have := hf.lt; show (rS z k).2.1 < ((k + 1 : Nat) : Int); omega, fun c => ⟨rfl, fun p hpk => ?_⟩, fun i hi => by omega, fun p _ hpk hz => ?_⟩
        · by_cases e : p = k
          · subst e; exact c
          · exact hneg p (by omega)
        · by_cases e : p = k
          · subst e; rfl
          · have := hneg p (by omega); omega
      · rw [if_neg hV]
        by_cases hz : 0 ≤ z k ∧ z k ≠ (rS z k).2.2
        · rw [if_pos hz]
          refine ⟨m + 1, hp.shut hf, by show (0 : Int) ≤ (k : Int); omega, by show (k : Int) < ((k + 1 : Nat) : Int); omega, fun c => by have : z k < 0 := c; omega, fun i hi => ?_, fun p h1 h2 _ => ?_⟩
          · have e : i = m := by omega
            subst e
            have := fn_end (rS z k).1 (rS z k).2.1 k (rS z k).2.2
            rw [hp.len] at this
            show fn ((rS z k).1 ++ [(rS z k).2.1, (k : Int), (rS z k).2.2]) (i * 3 + 2) ≠ z k
            rw [this]; exact fun c => hz.2 c.symm
          · have h1' : (k : Int) ≤ (p : Int) := h1
            have : p = k := by omega
            subst this; rfl
        · rw [if_neg hz]
          refine ⟨m, hp, hf.lo, by have := hf.lt; show _ < ((k + 1 : Nat) : Int); omega, fun c => absurd c hV, hf.ne, fun p h1 h2 h3 => ?_⟩
          by_cases e : p = k
          · subst e
            rcases Classical.em (z p = (rS z p).2.2) with c | c
            · exact c
            · exact absurd ⟨h3, c⟩ hz
          · exact hf.ins p h1 (by omega) h3
/-- What the law asks of a run. -/
theorem run_at {z : Nat → Int} {k n : Nat} (hk : 1 ≤ k) (hl : (flat z k).length = n * 3) (i : Nat) (hi : i < n) :
    ∃ a t : Nat, fn (flat z k) (i * 3) = (a : Int) ∧ fn (flat z k) (i * 3 + 1) = (t : Int) ∧ a < t ∧ t ≤ k ∧ (i = 0 → a = 0) ∧ (∀ j, i = j + 1 → fn (flat z k) (j * 3 + 1) = (a : Int) ∧ fn (flat z k) (j * 3 + 2) ≠ fn (flat z k) (i * 3 + 2)) ∧ (i + 1 = n → t = k) ∧ ∀ p, a ≤ p → p < t → 0 ≤ z p → z p = fn (flat z k) (i * 3 + 2) := by
  obtain ⟨m, hp, hf⟩ := rS_good (z := z) k hk
  have h := hp.shut hf
  have hn : n = m + 1 := by have := h.len; unfold flat at hl; omega
  subst hn
  unfold flat
  generalize (rS z k).1 ++ [(rS z k).2.1, (k : Int), (rS z k).2.2] = G at h
  obtain ⟨h1, h2, h3⟩ := h.pos i hi
  refine ⟨(fn G (i * 3)).toNat, (fn G (i * 3 + 1)).toNat, by omega, by omega, by omega, by omega, fun e => ?_, fun j e => ?_, fun e => ?_, fun p a b c => h.ins i hi p (by omega) (by omega) c⟩
  · subst e; have := h.first.2 (by omega); simp only [Nat.zero_mul]; omega
  · subst e
    obtain ⟨x, y⟩ := h.next j hi
    exact ⟨by omega, y⟩
  · have := h.last i e; omega
end Go.Proofs.Yteefeciiaekdlaa
