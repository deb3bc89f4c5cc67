import Derived.Test.YtobmdefklgkoiaaMem
namespace Go.Proofs.Ytobmdefklgkoiaa
set_option linter.unusedSimpArgs false
set_option linter.unusedVariables false

/-- So many letters, side by side, that look alike: a size, a mark, how many. -/
abbrev Runs := List ((Int × Int) × Nat)
def expandR : Runs → List (Int × Int)
  | [] => []
  | (a, n) :: r => List.replicate n a ++ expandR r
/-- None is empty, no two neighbours look alike. -/
def normR : Runs → Prop
  | [] => True
  | (a, n) :: r => 0 < n ∧ (∀ b m q, r = (b, m) :: q → a ≠ b) ∧ normR r
/-- More letters behind. -/
def withR : Runs → (Int × Int) → Nat → Runs
  | [], a, n => if n = 0 then [] else [(a, n)]
  | [(b, m)], a, n => if n = 0 then [(b, m)] else if b = a then [(b, m + n)] else [(b, m), (a, n)]
  | x :: y :: r, a, n => x :: withR (y :: r) a n
theorem expand_app (l q : Runs) : expandR (l ++ q) = expandR l ++ expandR q := by
  induction l with
  | nil => rfl
  | cons x r ih => obtain ⟨a, n⟩ := x; simp only [List.cons_append, expandR, ih, List.append_assoc]
theorem expand_with (l : Runs) (a : Int × Int) (n : Nat) : expandR (withR l a n) = expandR l ++ List.replicate n a := by
  induction l with
  | nil => unfold withR; split <;> simp_all [expandR]
  | cons x r ih =>
    obtain ⟨b, m⟩ := x
    cases r with
    | nil =>
      unfold withR
      split
      · simp_all [expandR]
      · split
        · rename_i e; subst e; simp [expandR, List.replicate_append_replicate]
        · simp [expandR]
    | cons y s => simp only [withR, expandR, ih, List.append_assoc]
theorem with_ne {l : Runs} {a : Int × Int} {n : Nat} : ∀ {b m q}, withR l a n = (b, m) :: q → l = [] ∨ ∃ m' q', l = (b, m') :: q' := by
  intro b m q h
  cases l with
  | nil => exact .inl rfl
  | cons x r =>
    right
    obtain ⟨c, k⟩ := x
    cases r with
    | nil =>
      unfold withR at h
      split at h
      · simp at h; exact ⟨k, [], by rw [h.1.1]⟩
      · split at h
        · simp at h; exact ⟨k, [], by rw [h.1.1]⟩
        · simp at h; exact ⟨k, [], by rw [h.1.1]⟩
    | cons y s => simp only [withR, List.cons.injEq, Prod.mk.injEq] at h; exact ⟨k, y :: s, by rw [h.1.1]⟩
theorem norm_with {l : Runs} (h : normR l) (a : Int × Int) (n : Nat) : normR (withR l a n) := by
  induction l with
  | nil =>
    unfold withR
    split
    · trivial
    · exact ⟨by omega, by simp, trivial⟩
  | cons x r ih =>
    obtain ⟨b, m⟩ := x
    obtain ⟨h1, h2, h3⟩ := h
    cases r with
    | nil =>
      unfold withR
      split
      · exact ⟨h1, h2, h3⟩
      · split
        · exact ⟨by omega, by simp, trivial⟩
        · rename_i e
          refine ⟨h1, ?_, by omega, by simp, trivial⟩
          intro c k q hq
          simp at hq
          rw [← hq.1.1]; exact e
    | cons y s =>
      simp only [withR]
      refine ⟨h1, ?_, ih h3⟩
      intro c k q hq
      rcases with_ne hq with e | ⟨m', q', e⟩
      · cases e
      · exact h2 c m' q' e
/-- How a list begins with one and the same. -/
theorem lead_norm {a : Int × Int} {n : Nat} {r : Runs} (h : normR ((a, n) :: r)) : (expandR ((a, n) :: r)).takeWhile (fun x => decide (x = a)) = List.replicate n a := by
  obtain ⟨_, h2, h3⟩ := h
  have ht : (expandR r).takeWhile (fun x => decide (x = a)) = [] := by
    cases r with
    | nil => rfl
    | cons y s =>
      obtain ⟨b, m⟩ := y
      obtain ⟨h4, _, _⟩ := h3
      have hne := h2 b m s rfl
      obtain ⟨m', rfl⟩ : ∃ m', m = m' + 1 := ⟨m - 1, by omega⟩
      simp only [expandR, List.replicate_succ, List.cons_append, List.takeWhile_cons]
      rw [if_neg (by simpa using fun e => hne e.symm)]
  simp only [expandR]
  induction n with
  | zero => simpa using ht
  | succ n ih =>
    simp only [List.replicate_succ, List.cons_append, List.takeWhile_cons]
    simp only [decide_true, if_true]
    rw [List.cons.injEq]
    refine ⟨rfl, ?_⟩
    have : ∀ k : Nat, (List.replicate k a ++ expandR r).takeWhile (fun x => decide (x = a)) = List.replicate k a := by
      intro k
      induction k with
      | zero => simpa using ht
      | succ k ihk => simp only [List.replicate_succ, List.cons_append, List.takeWhile_cons, decide_true, if_true, ihk]
    exact this n
/-- There is one way to say how letters look. -/
theorem norm_ext : ∀ {l q : Runs}, normR l → normR q → expandR l = expandR q → l = q
  | [], [], _, _, _ => rfl
  | [], (b, m) :: s, _, h, e => by
    obtain ⟨h1, _, _⟩ := h
    have := congrArg List.length e
    simp [expandR] at this
    omega
  | (a, n) :: r, [], h, _, e => by
    obtain ⟨h1, _, _⟩ := h
    have := congrArg List.length e
    simp [expandR] at this
    omega
  | (a, n) :: r, (b, m) :: s, h, g, e => by
    have h1 := h.1
    have g1 := g.1
    have hab : a = b := by
      obtain ⟨n', rfl⟩ : ∃ n', n = n' + 1 := ⟨n - 1, by omega⟩
      obtain ⟨m', rfl⟩ : ∃ m', m = m' + 1 := ⟨m - 1, by omega⟩
      simp only [expandR, List.replicate_succ, List.cons_append, List.cons.injEq] at e
      exact e.1
    subst hab
    have hl := lead_norm h
    rw [e, lead_norm g] at hl
    have hnm : m = n := by have := congrArg List.length hl; simpa using this
    subst hnm
    have he : expandR r = expandR s := by
      simp only [expandR] at e
      exact List.append_cancel_left e
    rw [norm_ext h.2.2 g.2.2 he]
/-- The runs of looks. -/
def rleR (x : List (Int × Int)) : Runs := x.foldl (fun l a => withR l a 1) []
theorem rle_app (x : List (Int × Int)) (a : Int × Int) : rleR (x ++ [a]) = withR (rleR x) a 1 := by unfold rleR; rw [List.foldl_append]; rfl
theorem rle_is (x : List (Int × Int)) : normR (rleR x) ∧ expandR (rleR x) = x := by
  have key : ∀ (y : List (Int × Int)) (l : Runs), normR l → normR (y.foldl (fun l a => withR l a 1) l) ∧ expandR (y.foldl (fun l a => withR l a 1) l) = expandR l ++ y := by
    intro y
    induction y with
    | nil => intro l h; exact ⟨h, by simp⟩
    | cons a r ih =>
      intro l h
      obtain ⟨h1, h2⟩ := ih (withR l a 1) (norm_with h a 1)
      refine ⟨h1, ?_⟩
      rw [List.foldl_cons, h2, expand_with]
      simp
  have := key x [] trivial
  simpa [rleR, expandR] using this
theorem rle_of {l : Runs} (h : normR l) : rleR (expandR l) = l := norm_ext (rle_is _).1 h (rle_is _).2
/-- The spans that runs tell, from a place on: four numbers each. -/
def spR (b : Nat) : Runs → List Int
  | [] => []
  | ((s, m), n) :: r => (if s = 10 ∧ m = 0 then [] else [(b : Int), ((b + n : Nat) : Int), s, m]) ++ spR (b + n) r
def cntR : Runs → Nat
  | [] => 0
  | (_, n) :: r => n + cntR r
theorem cnt_app (l q : Runs) : cntR (l ++ q) = cntR l + cntR q := by
  induction l with
  | nil => simp [cntR]
  | cons x r ih => obtain ⟨a, n⟩ := x; simp only [List.cons_append, cntR, ih]; omega
theorem cnt_len (l : Runs) : (expandR l).length = cntR l := by
  induction l with
  | nil => rfl
  | cons x r ih => obtain ⟨a, n⟩ := x; simp [expandR, cntR, ih]
theorem sp_app (b : Nat) (l q : Runs) : spR b (l ++ q) = spR b l ++ spR (b + cntR l) q := by
  induction l generalizing b with
  | nil => simp [spR, cntR]
  | cons x r ih =>
    obtain ⟨⟨s, m⟩, n⟩ := x
    simp only [List.cons_append, spR, cntR, ih, List.append_assoc, Nat.add_assoc]
/-- Within a run all look as it says; behind it another look begins, or all ends. -/
theorem run_in {p q : Runs} {a : Int × Int} {n j : Nat} (hj : j < n) : (expandR (p ++ (a, n) :: q))[cntR p + j]? = some a := by
  rw [expand_app, List.getElem?_append_right (by rw [cnt_len]; omega), cnt_len]
  simp only [expandR]
  rw [show cntR p + j - cntR p = j by omega, List.getElem?_append_left (by simp; omega), List.getElem?_replicate, if_pos hj]
theorem norm_tail {p q : Runs} (h : normR (p ++ q)) : normR q := by
  induction p with
  | nil => exact h
  | cons x r ih => obtain ⟨a, n⟩ := x; exact ih h.2.2
theorem run_out {p q : Runs} {a : Int × Int} {n : Nat} (h : normR (p ++ (a, n) :: q)) : (q = [] ∧ (expandR (p ++ (a, n) :: q)).length = cntR p + n) ∨ ∃ b, b ≠ a ∧ (expandR (p ++ (a, n) :: q))[cntR p + n]? = some b := by
  obtain ⟨_, h2, h3⟩ := norm_tail h
  cases q with
  | nil => left; refine ⟨rfl, ?_⟩; rw [cnt_len, cnt_app]; simp [cntR]
  | cons y s =>
    right
    obtain ⟨b, m⟩ := y
    refine ⟨b, fun e => h2 b m s rfl e.symm, ?_⟩
    have := run_in (p := p ++ [(a, n)]) (q := s) (a := b) (n := m) (j := 0) h3.1
    rw [cnt_app] at this
    simp only [cntR, Nat.add_zero, List.append_assoc, List.cons_append, List.nil_append] at this
    exact this
end Go.Proofs.Ytobmdefklgkoiaa
