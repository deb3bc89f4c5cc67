import Derived.Test.YtbjcdogbhnadkacMem
namespace Go.Proofs.Ytbjcdogbhnadkac
set_option linter.unusedSimpArgs false

/-- Where the stretch of a place begins. -/
def stA (q : Nat → Bool) : Nat → Nat
  | 0 => 0
  | x + 1 => if q x = true then stA q x else x + 1
/-- Where it ends. -/
def enA (q : Nat → Bool) : Nat → Nat → Nat
  | 0, x => x
  | f + 1, x => if q x = true then enA q f (x + 1) else x
theorem stA_is {q : Nat → Bool} {s x : Nat} (hs : s ≤ x) (hin : ∀ y, s ≤ y → y < x → q y = true) (hb : s = 0 ∨ q (s - 1) = false) : stA q x = s := by
  induction x with
  | zero => simp [stA]; omega
  | succ x ih =>
    simp only [stA]
    by_cases e : s = x + 1
    · subst e
      rcases hb with hb | hb
      · omega
      · rw [Nat.add_sub_cancel] at hb; rw [hb]; simp
    · rw [if_pos (hin x (by omega) (by omega))]; exact ih (by omega) (fun y a b => hin y a (by omega))
theorem enA_is {q : Nat → Bool} {n e x : Nat} (hx : x ≤ e) (he : e ≤ n) (hin : ∀ y, x ≤ y → y < e → q y = true) (hb : e = n ∨ q e = false) : enA q (n - x) x = e := by
  obtain ⟨d, hd⟩ : ∃ d, e - x = d := ⟨_, rfl⟩
  induction d generalizing x with
  | zero =>
    have : x = e := by omega
    subst this
    rcases hb with hb | hb
    · rw [show n - x = 0 by omega]; rfl
    · by_cases h0 : n - x = 0
      · rw [h0]; rfl
      · obtain ⟨f, hf⟩ : ∃ f, n - x = f + 1 := ⟨n - x - 1, by omega⟩
        rw [hf]; simp [enA, hb]
  | succ d ih =>
    obtain ⟨f, hf⟩ : ∃ f, n - x = f + 1 := ⟨n - x - 1, by omega⟩
    rw [hf]
    simp only [enA]
    rw [if_pos (hin x (Nat.le_refl _) (by omega)), show f = n - (x + 1) by omega]
    exact ih (by omega) (fun y a b => hin y (by omega) b) (by omega)

/-- What stands at a place when each stretch is turned round. -/
def turnAt (q : Nat → Bool) (l : List Int) (x : Nat) : Int :=
  if q x = true then fn l (stA q x + enA q (l.length - x) x - 1 - x) else fn l x
def turned (q : Nat → Bool) (l : List Int) : List Int := (List.range l.length).map (turnAt q l)
theorem turned_len (q : Nat → Bool) (l : List Int) : (turned q l).length = l.length := by simp [turned]
theorem fn_turned {q : Nat → Bool} {l : List Int} {x : Nat} (h : x < l.length) : fn (turned q l) x = turnAt q l x := by simp [fn, turned, h]
theorem turn_in {q : Nat → Bool} {l : List Int} {s e x : Nat} (hs : s ≤ x) (he : x < e) (hn : e ≤ l.length) (hin : ∀ y, s ≤ y → y < e → q y = true) (hb : s = 0 ∨ q (s - 1) = false) (hb2 : e = l.length ∨ q e = false) :
    turnAt q l x = fn l (s + e - 1 - x) := by
  unfold turnAt
  rw [if_pos (hin x hs he), stA_is hs (fun y a b => hin y a (by omega)) hb, enA_is (by omega) hn (fun y a b => hin y (by omega) b) hb2]
theorem turn_out {q : Nat → Bool} {l : List Int} {x : Nat} (h : q x = false) : turnAt q l x = fn l x := by simp [turnAt, h]
theorem stA_le (q : Nat → Bool) (x : Nat) : stA q x ≤ x := by
  induction x with
  | zero => simp [stA]
  | succ x ih => simp only [stA]; split <;> omega
theorem enA_bounds (q : Nat → Bool) (f x : Nat) : x ≤ enA q f x ∧ enA q f x ≤ x + f := by
  induction f generalizing x with
  | zero => simp [enA]
  | succ f ih => simp only [enA]; split
                 · have := ih (x + 1); omega
                 · omega
theorem turn_mem {q : Nat → Bool} {l : List Int} {x : Nat} (hx : x < l.length) : ∃ y, y < l.length ∧ turnAt q l x = fn l y := by
  unfold turnAt
  split
  · rename_i hq
    refine ⟨_, ?_, rfl⟩
    have h1 := stA_le q x
    have h2 := enA_bounds q (l.length - x) x
    have h3 : x < enA q (l.length - x) x := by
      obtain ⟨f, hf⟩ : ∃ f, l.length - x = f + 1 := ⟨l.length - x - 1, by omega⟩
      rw [hf]; simp only [enA]; rw [if_pos hq]; have := (enA_bounds q f (x + 1)).1; omega
    omega
  · exact ⟨x, hx, rfl⟩

/-- Part of a row, the other way round. -/
def revAt (l : List Int) (i m k x : Nat) : Int := if (i ≤ x ∧ x < i + k) ∨ (i + m - k ≤ x ∧ x < i + m) then fn l (2 * i + m - 1 - x) else fn l x
end Go.Proofs.Ytbjcdogbhnadkac
