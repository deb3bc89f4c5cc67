import Derived.Test.YtobmdefklgkoiaaSpPut
namespace Go.Proofs.Ytobmdefklgkoiaa
set_option linter.unusedSimpArgs false
set_option linter.unusedVariables false

/-- The spans that runs tell, a span a time. -/
def spQ (b : Nat) : Runs → List (Nat × Nat × Int × Int)
  | [] => []
  | ((s, m), n) :: r => (if s = 10 ∧ m = 0 then [] else [(b, b + n, s, m)]) ++ spQ (b + n) r
def flatQ : List (Nat × Nat × Int × Int) → List Int
  | [] => []
  | (f, t, s, m) :: r => (f : Int) :: (t : Int) :: s :: m :: flatQ r
theorem flat_app (Q P : List (Nat × Nat × Int × Int)) : flatQ (Q ++ P) = flatQ Q ++ flatQ P := by
  induction Q with
  | nil => rfl
  | cons x r ih => obtain ⟨f, t, s, m⟩ := x; simp only [List.cons_append, flatQ, ih]
theorem flat_sp (b : Nat) (R : Runs) : flatQ (spQ b R) = spR b R := by
  induction R generalizing b with
  | nil => rfl
  | cons x r ih =>
    obtain ⟨⟨s, m⟩, n⟩ := x
    simp only [spQ, spR]
    rw [flat_app, ih]
    congr 1
    split
    · rfl
    · rfl
theorem flat_len (Q : List (Nat × Nat × Int × Int)) : (flatQ Q).length = Q.length * 4 := by
  induction Q with
  | nil => rfl
  | cons x r ih => obtain ⟨f, t, s, m⟩ := x; simp only [flatQ, List.length_cons, ih]; omega
theorem fn_flat : ∀ (Q : List (Nat × Nat × Int × Int)) (i : Nat) (h : i < Q.length), fn (flatQ Q) (i * 4) = (Q[i].1 : Int) ∧ fn (flatQ Q) (i * 4 + 1) = (Q[i].2.1 : Int) ∧ fn (flatQ Q) (i * 4 + 2) = Q[i].2.2.1 ∧ fn (flatQ Q) (i * 4 + 3) = Q[i].2.2.2
  | [], i, h => by simp at h
  | (f, t, s, m) :: r, 0, h => ⟨rfl, rfl, rfl, rfl⟩
  | (f, t, s, m) :: r, i + 1, h => by
    have := fn_flat r i (by simpa using h)
    rw [show (i + 1) * 4 = i * 4 + 1 + 1 + 1 + 1 by omega]
    simpa [flatQ, fn] using this
def lookQ (a : Int) : List (Nat × Nat × Int × Int) → Int × Int
  | [] => (10, 0)
  | (f, t, s, m) :: r => if (f : Int) ≤ a ∧ a < (t : Int) then (s, m) else lookQ a r
theorem spAt_flat (Q : List (Nat × Nat × Int × Int)) (a : Int) : ∀ k, k ≤ Q.length → spAt (fn (flatQ Q)) a Q.length k = lookQ a (Q.drop (Q.length - k)) := by
  intro k
  induction k with
  | zero => intro _; simp [spAt, lookQ]
  | succ k ih =>
    intro hk
    have hi : Q.length - (k + 1) < Q.length := by omega
    obtain ⟨e1, e2, e3, e4⟩ := fn_flat Q _ hi
    simp only [spAt]
    rw [e1, e2, e3, e4, ih (by omega), List.drop_eq_getElem_cons hi, show Q.length - (k + 1) + 1 = Q.length - k by omega]
    obtain ⟨f, t, s, m⟩ := Q[Q.length - (k + 1)]
    rfl
theorem look_flat (Q : List (Nat × Nat × Int × Int)) (a : Int) : lookAt (fn (flatQ Q)) Q.length a = lookQ a Q := by
  unfold lookAt
  rw [spAt_flat Q a _ (Nat.le_refl _), Nat.sub_self]; rfl
theorem lookQ_sp (R : Runs) : ∀ (b j : Nat), (j < b → lookQ (j : Int) (spQ b R) = (10, 0)) ∧ (b ≤ j → lookQ (j : Int) (spQ b R) = ((expandR R)[j - b]?).getD (10, 0)) := by
  induction R with
  | nil => intro b j; exact ⟨fun _ => rfl, fun _ => by simp [expandR, spQ, lookQ]⟩
  | cons x r ih =>
    obtain ⟨⟨s, m⟩, n⟩ := x
    intro b j
    obtain ⟨i1, i2⟩ := ih (b + n) j
    simp only [spQ, expandR]
    by_cases hb : s = 10 ∧ m = 0
    · rw [if_pos hb, List.nil_append]
      obtain ⟨rfl, rfl⟩ := hb
      refine ⟨fun h => i1 (by omega), fun h => ?_⟩
      by_cases q : j < b + n
      · rw [i1 q, List.getElem?_append_left (by simp; omega), List.getElem?_replicate, if_pos (by omega)]; rfl
      · rw [i2 (by omega), List.getElem?_append_right (by simp; omega), List.length_replicate, show j - b - n = j - (b + n) by omega]
    · rw [if_neg hb]
      simp only [List.cons_append, List.nil_append, lookQ]
      refine ⟨fun h => ?_, fun h => ?_⟩
      · rw [if_neg (by omega)]; exact i1 (by omega)
      · by_cases q : j < b + n
        · rw [if_pos (by omega), List.getElem?_append_left (by simp; omega), List.getElem?_replicate, if_pos (by omega)]; rfl
        · rw [if_neg (by omega), i2 (by omega), List.getElem?_append_right (by simp; omega), List.length_replicate, show j - b - n = j - (b + n) by omega]
/-- What the told spans say is how all looked. -/
theorem looks_back (R : Runs) : looksS (fn (spR 0 R)) (spQ 0 R).length (cntR R) = expandR R := by
  apply List.ext_getElem
  · rw [looksS_len, cnt_len]
  · intro j h1 h2
    have h3 : (looksS (fn (spR 0 R)) (spQ 0 R).length (cntR R))[j] = lookAt (fn (spR 0 R)) (spQ 0 R).length (j : Int) := by simp [looksS]
    rw [h3, ← flat_sp, look_flat, (lookQ_sp R 0 j).2 (Nat.zero_le _), Nat.sub_zero, List.getElem?_eq_getElem h2]
    rfl
/-- Spans in order, each of a look that there is. -/
def chainQ (c : Nat) : Nat → List (Nat × Nat × Int × Int) → Prop
  | _, [] => True
  | e, (f, t, s, m) :: r => e ≤ f ∧ f < t ∧ t ≤ c ∧ (1 ≤ s ∧ s ≤ 40 ∧ 0 ≤ m ∧ m ≤ 9) ∧ chainQ c t r
theorem chain_le {c : Nat} {Q : List (Nat × Nat × Int × Int)} {e e' : Nat} (h : chainQ c e Q) (he : e' ≤ e) : chainQ c e' Q := by
  cases Q with
  | nil => trivial
  | cons x r => obtain ⟨f, t, s, m⟩ := x; exact ⟨Nat.le_trans he h.1, h.2⟩
def validR (R : Runs) : Prop := ∀ x ∈ R, 1 ≤ x.1.1 ∧ x.1.1 ≤ 40 ∧ 0 ≤ x.1.2 ∧ x.1.2 ≤ 9
theorem chain_sp {R : Runs} (hv : validR R) (hn : normR R) : ∀ b c, b + cntR R ≤ c → chainQ c b (spQ b R) := by
  induction R with
  | nil => intro b c _; trivial
  | cons x r ih =>
    obtain ⟨⟨s, m⟩, n⟩ := x
    intro b c hc
    obtain ⟨h1, _, h3⟩ := hn
    simp only [cntR] at hc
    have hi := ih (fun y hy => hv y (List.mem_cons_of_mem _ hy)) h3 (b + n) c (by omega)
    have hx := hv ((s, m), n) (by simp)
    simp only [spQ]
    split
    · exact chain_le hi (by omega)
    · exact ⟨Nat.le_refl _, by omega, by omega, hx, hi⟩
theorem chain_get {c : Nat} : ∀ {Q : List (Nat × Nat × Int × Int)} {e : Nat}, chainQ c e Q → ∀ i (h : i < Q.length), (e ≤ Q[i].1 ∧ Q[i].1 < Q[i].2.1 ∧ Q[i].2.1 ≤ c ∧ (1 ≤ Q[i].2.2.1 ∧ Q[i].2.2.1 ≤ 40 ∧ 0 ≤ Q[i].2.2.2 ∧ Q[i].2.2.2 ≤ 9)) ∧ ∀ j (hj : j < i), Q[j].2.1 ≤ Q[i].1
  | [], e, _, i, h => by simp at h
  | (f, t, s, m) :: r, e, hc, 0, h => ⟨⟨hc.1, hc.2.1, hc.2.2.1, hc.2.2.2.1⟩, fun j hj => by omega⟩
  | (f, t, s, m) :: r, e, hc, i + 1, h => by
    have hi : i < r.length := by simpa using h
    obtain ⟨g1, g2⟩ := chain_get hc.2.2.2.2 i hi
    refine ⟨⟨?_, g1.2⟩, fun j hj => ?_⟩
    · show e ≤ r[i].1
      have := hc.1; have := hc.2.1; have := g1.1; omega
    · cases j with
      | zero => exact g1.1
      | succ j => exact g2 j (by omega)
/-- The told spans are ok, if they are not too many. -/
theorem ok_sp {R : Runs} (hv : validR R) (hn : normR R) (h12 : (spQ 0 R).length ≤ 12) (h80 : cntR R ≤ 80) : spansOk (fn (spR 0 R)) (spQ 0 R).length (cntR R : Int) = true := by
  have hc := chain_sp hv hn 0 (cntR R) (by omega)
  refine spansOk_yes (by omega) (by omega) h12 (fun i hi => ?_)
  rw [← flat_sp]
  obtain ⟨g1, g2⟩ := chain_get hc i hi
  obtain ⟨e1, e2, e3, e4⟩ := fn_flat _ i hi
  refine rowOk_mk ?_ ?_
  · rw [spOk_iff, e1, e2, e3, e4]
    omega
  · rw [e1]
    unfold enS
    split
    · omega
    · rename_i h0
      obtain ⟨p, rfl⟩ : ∃ p, i = p + 1 := ⟨i - 1, by omega⟩
      rw [show p + 1 - 1 = p by omega, (fn_flat _ p (by omega)).2.1]
      have := g2 p (by omega)
      omega
/-- Made plain again they are as they were. -/
theorem runs_back {R : Runs} (hv : validR R) (hn : normR R) (h12 : (spQ 0 R).length ≤ 12) (h80 : cntR R ≤ 80) : looksR (fn (spR 0 R)) (spQ 0 R).length (cntR R : Int) = R := by
  rw [← rle_looks (ok_sp hv hn h12 h80), Int.toNat_natCast, looks_back, rle_of hn]
end Go.Proofs.Ytobmdefklgkoiaa
