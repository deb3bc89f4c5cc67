import Derived.Test.YtobmdefklgkoiaaSpBack
namespace Go.Proofs.Ytobmdefklgkoiaa
set_option linter.unusedSimpArgs false
set_option linter.unusedVariables false

/-- A look put over others. -/
def putRuns (o : Runs) (lk : Int × Int) (f t c : Nat) : Runs := partR 0 (withR (partR 0 [] o 0 f) lk (t - f)) o t c
theorem norm_put (o : Runs) (lk : Int × Int) (f t c : Nat) : normR (putRuns o lk f t c) := norm_part (norm_with (norm_part (l := []) (show normR [] from trivial) o _ _ _) _ _) o _ _ _
theorem expand_put (o : Runs) (lk : Int × Int) (f t c : Nat) : expandR (putRuns o lk f t c) = (expandR o).take f ++ (List.replicate (t - f) lk ++ ((expandR o).take c).drop t) := by
  unfold putRuns
  rw [expand_part, expand_with, expand_part]
  simp [expandR]
/-- A list in which some side by side are set. -/
def setLk (x : List (Int × Int)) (a : Int × Int) (f : Nat) : Nat → List (Int × Int)
  | 0 => x
  | k + 1 => (setLk x a f k).set (f + k) a
theorem setLk_len (x : List (Int × Int)) (a : Int × Int) (f k : Nat) : (setLk x a f k).length = x.length := by
  induction k with
  | zero => rfl
  | succ k ih => simp only [setLk, List.length_set, ih]
theorem setLk_is {x : List (Int × Int)} {a : Int × Int} {f : Nat} : ∀ k, f + k ≤ x.length → setLk x a f k = x.take f ++ (List.replicate k a ++ x.drop (f + k)) := by
  intro k
  induction k with
  | zero => intro _; simp [setLk]
  | succ k ih =>
    intro h
    simp only [setLk]
    rw [ih (by omega)]
    have hl : (x.take f).length = f := by simp; omega
    rw [List.set_append_right _ _ (by rw [hl]; omega), hl, show f + k - f = k by omega, List.set_append_right _ _ (by simp), List.length_replicate, Nat.sub_self, List.drop_eq_getElem_cons (by omega)]
    rw [List.set_cons_zero, List.replicate_succ', List.append_assoc]
    rfl
/-- What is put over others: both say the same. -/
theorem put_same {z : Nat → Int} {n : Nat} {c : Int} (h : spansOk z n c = true) {lk : Int × Int} {f t : Nat} (h1 : f ≤ t) (h2 : (t : Int) ≤ c) :
    rleR (setLk (looksS z n c.toNat) lk f (t - f)) = putRuns (looksR z n c) lk f t c.toNat := by
  have hl := looksS_len z n c.toNat
  have e : setLk (looksS z n c.toNat) lk f (t - f) = expandR (putRuns (looksR z n c) lk f t c.toNat) := by
    rw [expand_put, expand_looks h, setLk_is _ (by rw [looksS_len]; omega), show f + (t - f) = t by omega]
    rw [List.take_of_length_le (l := looksS z n c.toNat) (i := c.toNat) (by omega)]
  rw [e]
  exact rle_of (norm_put _ _ _ _ _)
/-- Letters that come in, or go. -/
def moveRuns (o : Runs) (at_ : Nat) (k : Int) (c : Nat) : Runs := partR 0 (withR (partR 0 [] o 0 at_) (ahR 0 (10, 0) o at_) k.toNat) o (at_ + (-k).toNat) c
theorem norm_move (o : Runs) (at_ : Nat) (k : Int) (c : Nat) : normR (moveRuns o at_ k c) := norm_part (norm_with (norm_part (l := []) (show normR [] from trivial) o _ _ _) _ _) o _ _ _
theorem expand_move (o : Runs) (at_ : Nat) (k : Int) (c : Nat) : expandR (moveRuns o at_ k c) = (expandR o).take at_ ++ (List.replicate k.toNat (ahR 0 (10, 0) o at_) ++ ((expandR o).take c).drop (at_ + (-k).toNat)) := by
  unfold moveRuns
  rw [expand_part, expand_with, expand_part]
  simp [expandR]
/-- The looks when letters come in or go, as the specification says it. -/
def moveLk (x : List (Int × Int)) (at_ : Nat) (k : Int) : List (Int × Int) :=
  if k < 0 then x.take at_ ++ x.drop (at_ + (-k).toNat) else x.take at_ ++ (List.replicate k.toNat (if 0 < at_ then x.getD (at_ - 1) (10, 0) else (10, 0)) ++ x.drop at_)
theorem move_same {z : Nat → Int} {n : Nat} {c : Int} (h : spansOk z n c = true) {at_ : Nat} {k : Int} (h1 : (at_ : Int) ≤ c) :
    rleR (moveLk (looksS z n c.toNat) at_ k) = moveRuns (looksR z n c) at_ k c.toNat := by
  have hl := looksS_len z n c.toNat
  have hx := expand_looks h
  have hcn : cntR (looksR z n c) = c.toNat := by rw [← cnt_len, hx, hl]
  have e : moveLk (looksS z n c.toNat) at_ k = expandR (moveRuns (looksR z n c) at_ k c.toNat) := by
    rw [expand_move, hx]
    rw [List.take_of_length_le (l := looksS z n c.toNat) (i := c.toNat) (by omega)]
    unfold moveLk
    by_cases q : k < 0
    · rw [if_pos q, show k.toNat = 0 by omega]; simp
    · rw [if_neg q, show (-k).toNat = 0 by omega, Nat.add_zero]
      have ha : (if 0 < at_ then (looksS z n c.toNat).getD (at_ - 1) (10, 0) else (10, 0)) = ahR 0 (10, 0) (looksR z n c) at_ := by
        by_cases p : 0 < at_
        · rw [if_pos p]
          have := ah_is (looksR z n c) 0 (10, 0) at_ (norm_looks z n c) p (by rw [hcn]; omega)
          rw [hx, Nat.sub_zero] at this
          rw [List.getD_eq_getElem?_getD, this]; rfl
        · rw [if_neg p, ah_keep _ _ _ _ (by omega)]
      rw [ha]
  rw [e]
  exact rle_of (norm_move _ _ _ _)
end Go.Proofs.Ytobmdefklgkoiaa
