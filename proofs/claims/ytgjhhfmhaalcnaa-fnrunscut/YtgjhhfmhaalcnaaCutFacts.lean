import Derived.Test.YtgjhhfmhaalcnaaCutMath
namespace Go.Proofs.Ytgjhhfmhaalcnaa
set_option linter.unusedSimpArgs false

theorem fn_c0 (a b c : Int) (X : List Int) : fn ([a, b, c] ++ X) 0 = a := rfl
theorem fn_c1 (a b c : Int) (X : List Int) : fn ([a, b, c] ++ X) 1 = b := rfl
theorem fn_c2 (a b c : Int) (X : List Int) : fn ([a, b, c] ++ X) 2 = c := rfl
theorem fn_c3 (a b c : Int) (X : List Int) (j : Nat) : fn ([a, b, c] ++ X) (j + 3) = fn X j := rfl
/-- What the law asks of each run that was cut. -/
def Piece (z y : Nat → Int) (n m : Nat) (f t v : Int) : Prop := f < t ∧ (∃ p, p < n ∧ z (p * 3) ≤ f ∧ t ≤ z (p * 3 + 1) ∧ z (p * 3 + 2) = v) ∧ ∃ q, q < m ∧ y (q * 3) ≤ f ∧ t ≤ y (q * 3 + 1)
/-- .. and of all. -/
structure Cuts (z y : Nat → Int) (n m : Nat) (f : Int) (X : List Int) (c : Nat) : Prop where
  len : X.length = c * 3
  from0 : 0 < c → fn X 0 = f
  next : ∀ j, j + 1 < c → fn X ((j + 1) * 3) = fn X (j * 3 + 1)
  piece : ∀ j, j < c → Piece z y n m (fn X (j * 3)) (fn X (j * 3 + 1)) (fn X (j * 3 + 2))
  last : ∀ j, j + 1 = c → fn X (j * 3 + 1) = wE z n
theorem Cuts.cons {z y : Nat → Int} {n m : Nat} {f t v : Int} {X : List Int} {c : Nat} (h : Cuts z y n m t X c) (hp : Piece z y n m f t v) (h0 : c = 0 → t = wE z n) : Cuts z y n m f ([f, t, v] ++ X) (c + 1) := by
  refine ⟨by have := h.len; simp only [List.length_append, List.length_cons, List.length_nil]; omega, fun _ => rfl, fun j hj => ?_, fun j hj => ?_, fun j hj => ?_⟩
  · rw [show (j + 1) * 3 = j * 3 + 3 by omega, fn_c3]
    cases j with
    | zero => rw [show 0 * 3 + 1 = 1 by omega, fn_c1, Nat.zero_mul]; exact h.from0 (by omega)
    | succ j => rw [show (j + 1) * 3 + 1 = (j * 3 + 1) + 3 by omega, fn_c3]; exact h.next j (by omega)
  · cases j with
    | zero => exact hp
    | succ j =>
      rw [show (j + 1) * 3 = j * 3 + 3 by omega, show j * 3 + 3 + 1 = (j * 3 + 1) + 3 by omega, show j * 3 + 3 + 2 = (j * 3 + 2) + 3 by omega, fn_c3, fn_c3, fn_c3]
      exact h.piece j (by omega)
  · cases j with
    | zero => exact h0 (by omega)
    | succ j => rw [show (j + 1) * 3 + 1 = (j * 3 + 1) + 3 by omega, fn_c3]; exact h.last j (by omega)
theorem Cuts.nil {z y : Nat → Int} {n m : Nat} {f : Int} : Cuts z y n m f [] 0 := ⟨rfl, fun h => by omega, fun j hj => by omega, fun j hj => by omega, fun j hj => by omega⟩

theorem cut_all {z y : Nat → Int} {n m : Nat} (T : Two z y n m) (d : Nat) : ∀ (f : Int) (i k : Nat), (St z y n m f i k ∨ (i = n ∧ k = m)) → n - i + (m - k) ≤ d →
    ∃ c, Cuts z y n m f (cutR z y n d f i k) c ∧ (i < n → 0 < c ∧ c + 1 ≤ n - i + (m - k)) ∧ (i = n → c = 0) ∧ (cutR y z m d f k i).length = c * 3 := by
  induction d with
  | zero =>
    intro f i k s hd
    rcases s with s | ⟨rfl, rfl⟩
    · have := s.i_lt; omega
    · exact ⟨0, Cuts.nil, fun h => by omega, fun _ => rfl, rfl⟩
  | succ d ih =>
    intro f i k s hd
    rcases s with s | ⟨rfl, rfl⟩
    · have hi := s.i_lt
      have hk := s.k_lt
      have aw : wE z (i + 1) = z (i * 3 + 1) := rfl
      by_cases e1 : z (i * 3 + 1) ≤ y (k * 3 + 1)
      · have hp : Piece z y n m f (z (i * 3 + 1)) (z (i * 3 + 2)) := ⟨s.zt, ⟨i, hi, s.zf, Int.le_refl _, rfl⟩, ⟨k, hk, s.yf, e1⟩⟩
        by_cases e2 : y (k * 3 + 1) ≤ z (i * 3 + 1)
        · have ey : z (i * 3 + 1) = y (k * 3 + 1) := by omega
          have hs : St z y n m (z (i * 3 + 1)) (i + 1) (k + 1) ∨ (i + 1 = n ∧ k + 1 = m) := by
            rcases last_iff T hi hk e1 with q | ⟨q1, q2, _⟩
            · have := s.fst T e1 q; rw [if_pos e2] at this; exact .inl this
            · exact .inr ⟨q1, q2⟩
          obtain ⟨c, h1, h2, h3, h4⟩ := ih (z (i * 3 + 1)) (i + 1) (k + 1) hs (by omega)
          have hc0 : c = 0 → z (i * 3 + 1) = wE z n := fun e => by
            rcases hs with q | ⟨q1, _⟩
            · have := (h2 q.i_lt).1; omega
            · rw [← q1]; rfl
          refine ⟨c + 1, ?_, fun _ => ?_, fun h => by omega, ?_⟩
          · rw [cutR_fst hi e1, if_pos e2]; exact h1.cons hp hc0
          · refine ⟨by omega, ?_⟩
            rcases hs with q | ⟨q1, _⟩
            · have := (h2 q.i_lt).2; omega
            · have := h3 q1; omega
          · rw [cutR_fst hk e2, if_pos e1]
            simp only [List.length_append, List.length_cons, List.length_nil]
            rw [← ey, h4]; omega
        · have hi1 : i + 1 < n := by
            rcases last_iff T hi hk e1 with q | ⟨_, _, q⟩
            · exact q
            · omega
          have hs := s.fst T e1 hi1
          rw [if_neg e2] at hs
          obtain ⟨c, h1, h2, h3, h4⟩ := ih (z (i * 3 + 1)) (i + 1) k (.inl hs) (by omega)
          refine ⟨c + 1, ?_, fun _ => ?_, fun h => by omega, ?_⟩
          · rw [cutR_fst hi e1, if_neg e2]; exact h1.cons hp (fun e => by have := (h2 hi1).1; omega)
          · have := (h2 hi1).2; omega
          · rw [cutR_snd hk e2]
            simp only [List.length_append, List.length_cons, List.length_nil]
            rw [h4]; omega
      · have hs := s.snd T e1
        have hp : Piece z y n m f (y (k * 3 + 1)) (z (i * 3 + 2)) := ⟨s.yt, ⟨i, hi, s.zf, by omega, rfl⟩, ⟨k, hk, s.yf, Int.le_refl _⟩⟩
        obtain ⟨c, h1, h2, h3, h4⟩ := ih (y (k * 3 + 1)) i (k + 1) (.inl hs) (by omega)
        refine ⟨c + 1, ?_, fun _ => ?_, fun h => by omega, ?_⟩
        · rw [cutR_snd hi e1]; exact h1.cons hp (fun e => by have := (h2 hi).1; omega)
        · have := (h2 hi).2; omega
        · rw [cutR_fst hk (by omega), if_neg e1]
          simp only [List.length_append, List.length_cons, List.length_nil]
          rw [h4]; omega
    · exact ⟨0, by rw [cutR_end]; exact Cuts.nil, fun h => by omega, fun _ => rfl, by rw [cutR_end]; rfl⟩
theorem Two.flip {z y : Nat → Int} {n m : Nat} (T : Two z y n m) : Two y z m n := ⟨T.wy, T.wz, T.m0, T.n0, T.same.symm, by have := T.same; have := T.le; omega⟩
/-- What P64 asks, where runs can be cut. -/
theorem cut_law {la lb : List Int} {n m : Nat} (T : Two (fn la) (fn lb) n m) :
    ∃ c, Cuts (fn la) (fn lb) n m 0 (cutL la lb n m) c ∧ 0 < c ∧ c < n + m ∧ (cutL lb la m n).length = c * 3 := by
  obtain ⟨c, h1, h2, _, h4⟩ := cut_all T (n + m) 0 0 0 (.inl (St.start T)) (by omega)
  have h5 := h2 T.n0
  refine ⟨c, by rw [cutL_yes T]; exact h1, h5.1, by omega, ?_⟩
  rw [cutL_yes T.flip, show m + n = n + m by omega]; exact h4
/-- Is one among the first k? -/
def orF (p : Nat → Bool) : Nat → Bool
  | 0 => false
  | k + 1 => orF p k || p k
theorem orF_yes {p : Nat → Bool} {n k : Nat} (hk : k < n) (h : p k = true) : orF p n = true := by
  induction n with
  | zero => omega
  | succ n ih =>
    simp only [orF]
    by_cases e : k = n
    · subst e; simp [h]
    · rw [ih (by omega)]; rfl
end Go.Proofs.Ytgjhhfmhaalcnaa
