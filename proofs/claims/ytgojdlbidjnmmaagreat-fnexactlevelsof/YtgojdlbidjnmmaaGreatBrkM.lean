import Derived.Test.YtgojdlbidjnmmaaGreatRRow
namespace Go.Proofs.YtgojdlbidjnmmaaGreat
set_option linter.unusedSimpArgs false
set_option linter.unusedVariables false

/-- The last place of a list of open ones at which m stands. -/
def scanF (l : Nat → Int) (O : List Nat) (m : Int) : Nat → Option Nat
  | 0 => none
  | k + 1 => if l (O.getD k 0) = m then some k else scanF l O m k
theorem scan_some {l : Nat → Int} {O : List Nat} {m : Int} {n k : Nat} (h : scanF l O m n = some k) : k < n ∧ l (O.getD k 0) = m ∧ ∀ j, k < j → j < n → l (O.getD j 0) ≠ m := by
  induction n with
  | zero => cases h
  | succ n ih =>
    simp only [scanF] at h
    by_cases e : l (O.getD n 0) = m
    · rw [if_pos e] at h
      simp at h; subst h
      exact ⟨by omega, e, fun j h1 h2 => by omega⟩
    · rw [if_neg e] at h
      obtain ⟨a, b, c⟩ := ih h
      refine ⟨by omega, b, fun j h1 h2 => ?_⟩
      by_cases ej : j = n
      · subst ej; exact e
      · exact c j h1 (by omega)
theorem scan_none {l : Nat → Int} {O : List Nat} {m : Int} {n : Nat} (h : scanF l O m n = none) : ∀ j, j < n → l (O.getD j 0) ≠ m := by
  induction n with
  | zero => intro j hj; omega
  | succ n ih =>
    simp only [scanF] at h
    by_cases e : l (O.getD n 0) = m
    · rw [if_pos e] at h; cases h
    · rw [if_neg e] at h
      intro j hj
      by_cases ej : j = n
      · subst ej; exact e
      · exact ih h j (by omega)
/-- Of a letter that closes m: what is open and what goes together. -/
def shutB (l : Nat → Int) (m : Int) (i : Nat) (O : List Nat) (P : List (Nat × Nat)) : Option Nat → List Nat × List (Nat × Nat)
  | none => (O, P)
  | some k => (O.take k, P ++ [(O.getD k 0, i)])
def stepB (l c : Nat → Int) (mate : Int → Int) (i : Nat) (O : List Nat) (P : List (Nat × Nat)) : List Nat × List (Nat × Nat) :=
  if mate (l i) = 0 ∨ c i ≠ 13 then (O, P)
  else if l i < mate (l i) then (O ++ [i], P)
  else shutB l (mate (l i)) i O P (scanF l O (mate (l i)) O.length)
def stB (l c : Nat → Int) (mate : Int → Int) : Nat → List Nat × List (Nat × Nat)
  | 0 => ([], [])
  | i + 1 => stepB l c mate i (stB l c mate i).1 (stB l c mate i).2
/-- Places that are open ascend; of pairs no two begin at one place, and none at an open one. -/
structure GoodB (n : Nat) (O : List Nat) (P : List (Nat × Nat)) : Prop where
  inc : O.Pairwise (· < ·)
  lt : ∀ x ∈ O, x < n
  ne : P.Pairwise (fun a b => a.1 ≠ b.1)
  lt2 : ∀ p ∈ P, p.1 < p.2 ∧ p.2 < n
  off : ∀ p ∈ P, p.1 ∉ O
theorem goodB_step {l c : Nat → Int} {mate : Int → Int} {i : Nat} {O : List Nat} {P : List (Nat × Nat)} (h : GoodB i O P) : GoodB (i + 1) (stepB l c mate i O P).1 (stepB l c mate i O P).2 := by
  have hup : GoodB (i + 1) O P := ⟨h.inc, fun x hx => by have := h.lt x hx; omega, h.ne, fun p hp => by have := h.lt2 p hp; omega, h.off⟩
  unfold stepB
  split
  · exact hup
  · split
    · refine ⟨?_, ?_, h.ne, fun p hp => by have := h.lt2 p hp; omega, ?_⟩
      · rw [List.pairwise_append]
        exact ⟨h.inc, by simp, fun a ha b hb => by simp at hb; subst hb; exact h.lt a ha⟩
      · intro x hx; simp at hx
        rcases hx with hx | rfl
        · have := h.lt x hx; omega
        · omega
      · intro p hp hx; simp at hx
        rcases hx with hx | hx
        · exact h.off p hp hx
        · have := h.lt2 p hp; omega
    · cases hs : scanF l O (mate (l i)) O.length with
      | none => exact hup
      | some k =>
        obtain ⟨hk, _, _⟩ := scan_some hs
        have hget : O.getD k 0 = O[k] := by simp [hk]
        have hmem : O[k] ∈ O := List.getElem_mem hk
        show GoodB (i + 1) (O.take k) (P ++ [(O.getD k 0, i)])
        rw [hget]
        refine ⟨h.inc.sublist (List.take_sublist _ _), fun x hx => by have := h.lt x (List.mem_of_mem_take hx); omega, ?_, ?_, ?_⟩
        · rw [List.pairwise_append]
          exact ⟨h.ne, by simp, fun a ha b hb => by simp at hb; subst hb; intro e; exact h.off a ha (by rw [e]; exact hmem)⟩
        · intro p hp; simp at hp
          rcases hp with hp | rfl
          · have := h.lt2 p hp; omega
          · have := h.lt _ hmem; exact ⟨by simpa using this, by simp⟩
        · intro p hp hx; simp at hp
          rcases hp with hp | rfl
          · exact h.off p hp (List.mem_of_mem_take hx)
          · have h2 := h.inc
            rw [← List.take_append_drop k O, List.pairwise_append] at h2
            have := h2.2.2 _ hx (O[k]) (by rw [List.drop_eq_getElem_cons hk]; exact List.mem_cons_self)
            simp at this
theorem good_st (l c : Nat → Int) (mate : Int → Int) (n : Nat) : GoodB n (stB l c mate n).1 (stB l c mate n).2 := by
  induction n with
  | zero => exact ⟨by simp [stB], by simp [stB], by simp [stB], by simp [stB], by simp [stB]⟩
  | succ n ih => exact goodB_step ih
theorem st_len (l c : Nat → Int) (mate : Int → Int) (n : Nat) : (stB l c mate n).1.length ≤ n ∧ (stB l c mate n).2.length ≤ n := by
  induction n with
  | zero => simp [stB]
  | succ n ih =>
    simp only [stB]
    unfold stepB
    split
    · show (stB l c mate n).1.length ≤ n + 1 ∧ (stB l c mate n).2.length ≤ n + 1; omega
    · split
      · simp; omega
      · cases hs : scanF l (stB l c mate n).1 (mate (l n)) (stB l c mate n).1.length with
        | none => simp only [shutB]; omega
        | some k => simp only [shutB, List.length_take, List.length_append, List.length_singleton]; omega

/-- A pair put among others, by where it begins. -/
def insP : List (Nat × Nat) → Nat × Nat → List (Nat × Nat)
  | [], p => [p]
  | q :: r, p => if q.1 < p.1 then q :: insP r p else p :: q :: r
def srtB (P : List (Nat × Nat)) : List (Nat × Nat) := P.foldl insP []
theorem ins_perm (L : List (Nat × Nat)) (p : Nat × Nat) : (insP L p).Perm (p :: L) := by
  induction L with
  | nil => exact List.Perm.refl _
  | cons q r ih =>
    simp only [insP]
    split
    · exact (ih.cons q).trans (List.Perm.swap p q r)
    · exact List.Perm.refl _
theorem ins_len (L : List (Nat × Nat)) (p : Nat × Nat) : (insP L p).length = L.length + 1 := by
  have := (ins_perm L p).length_eq; simpa using this
theorem ins_sorted {L : List (Nat × Nat)} {p : Nat × Nat} (h : L.Pairwise (fun a b => a.1 < b.1)) (hp : ∀ q ∈ L, q.1 ≠ p.1) : (insP L p).Pairwise (fun a b => a.1 < b.1) := by
  induction L with
  | nil => simp [insP]
  | cons q r ih =>
    simp only [insP]
    rw [List.pairwise_cons] at h
    split
    · rename_i hq
      rw [List.pairwise_cons]
      refine ⟨fun x hx => ?_, ih h.2 (fun y hy => hp y (by simp [hy]))⟩
      have := (ins_perm r p).mem_iff.1 hx
      simp at this
      rcases this with rfl | hx
      · exact hq
      · exact h.1 x hx
    · rename_i hq
      have hne := hp q (by simp)
      rw [List.pairwise_cons, List.pairwise_cons]
      refine ⟨fun x hx => ?_, h⟩
      simp at hx
      rcases hx with rfl | hx
      · omega
      · have := h.1 x hx; omega
/-- Where it is put. -/
theorem ins_at {L : List (Nat × Nat)} {p : Nat × Nat} {k : Nat} (hk : k ≤ L.length) (h1 : ∀ j, (hj : j < L.length) → j < k → (L[j]).1 < p.1) (h2 : ∀ (hj : k < L.length), ¬ (L[k]).1 < p.1) : insP L p = L.take k ++ [p] ++ L.drop k := by
  induction L generalizing k with
  | nil => simp at hk; subst hk; rfl
  | cons q r ih =>
    cases k with
    | zero =>
      simp only [insP]
      rw [if_neg (by have := h2 (by simp); simpa using this)]; simp
    | succ k =>
      simp only [insP]
      rw [if_pos (by have := h1 0 (by simp) (by omega); simpa using this)]
      rw [ih (by simpa using hk) (fun j hj hjk => by have := h1 (j + 1) (by simpa using hj) (by omega); simpa using this) (fun hj => by have := h2 (by simpa using hj); simpa using this)]
      simp
theorem srt_snoc (P : List (Nat × Nat)) (p : Nat × Nat) : srtB (P ++ [p]) = insP (srtB P) p := by unfold srtB; rw [List.foldl_append]; rfl
theorem srt_perm (P : List (Nat × Nat)) : (srtB P).Perm P := by
  have : ∀ (P L : List (Nat × Nat)), (P.foldl insP L).Perm (L ++ P) := by
    intro P
    induction P with
    | nil => intro L; simp
    | cons p r ih =>
      intro L
      rw [List.foldl_cons]
      refine (ih _).trans ?_
      refine ((ins_perm L p).append_right r).trans ?_
      simpa using (List.perm_middle (a := p) (l₁ := L) (l₂ := r)).symm
  have h := this P []
  rwa [List.nil_append] at h
theorem srt_sorted {P : List (Nat × Nat)} (h : P.Pairwise (fun a b => a.1 ≠ b.1)) : (srtB P).Pairwise (fun a b => a.1 < b.1) := by
  have : ∀ (P L : List (Nat × Nat)), P.Pairwise (fun a b => a.1 ≠ b.1) → L.Pairwise (fun a b => a.1 < b.1) → (∀ a ∈ L, ∀ b ∈ P, a.1 ≠ b.1) → (P.foldl insP L).Pairwise (fun a b => a.1 < b.1) := by
    intro P
    induction P with
    | nil => intro L _ h2 _; exact h2
    | cons p r ih =>
      intro L h1 h2 h3
      rw [List.pairwise_cons] at h1
      rw [List.foldl_cons]
      refine ih _ h1.2 (ins_sorted h2 (fun q hq => h3 q hq p (by simp))) (fun a ha b hb => ?_)
      have := (ins_perm L p).mem_iff.1 ha
      simp at this
      rcases this with rfl | ha
      · exact h1.1 b hb
      · exact h3 a ha b (by simp [hb])
  exact this P [] h (by simp) (by simp)
theorem srt_len (P : List (Nat × Nat)) : (srtB P).length = P.length := (srt_perm P).length_eq
/-- What is sorted and has the same pairs is the same. -/
theorem srt_uniq {P Q : List (Nat × Nat)} (hp : Q.Perm P) (hn : P.Pairwise (fun a b => a.1 ≠ b.1)) (hs : Q.Pairwise (fun a b => ¬ b.1 < a.1)) : Q = srtB P := by
  have h1 := srt_sorted hn
  have hpq : Q.Perm (srtB P) := hp.trans (srt_perm P).symm
  have hqn : Q.Pairwise (fun a b => a.1 ≠ b.1) := hp.symm.pairwise hn (fun h => fun e => h e.symm)
  have hq : Q.Pairwise (fun a b => a.1 < b.1) := by
    have := hqn.and hs
    exact this.imp (fun ⟨a, b⟩ => by omega)
  exact List.Perm.eq_of_pairwise (le := fun a b => a.1 < b.1) (fun a b _ _ h1 h2 => by omega) hq h1 hpq
/-- A pair as a row. -/
def rowP (p : Nat × Nat) : List Int := [(p.1 : Int), (p.2 : Int)]
def rowsP (P : List (Nat × Nat)) : List (List Int) := P.map rowP
theorem rowsP_len (P : List (Nat × Nat)) : (rowsP P).length = P.length := by simp [rowsP]
theorem rowsP_at {P : List (Nat × Nat)} {j : Nat} (h : j < P.length) : rN (rowsP P) j = rowP P[j] := by simp [rN, rowsP, h]
end Go.Proofs.YtgojdlbidjnmmaaGreat
