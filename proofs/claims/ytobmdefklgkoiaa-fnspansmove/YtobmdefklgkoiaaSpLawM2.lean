import Derived.Test.YtobmdefklgkoiaaSpLawM
namespace Go.Proofs.Ytobmdefklgkoiaa
set_option linter.unusedSimpArgs false
set_option linter.unusedVariables false

def goodA (a : Int × Int) : Prop := 1 ≤ a.1 ∧ a.1 ≤ 40 ∧ 0 ≤ a.2 ∧ a.2 ≤ 9
theorem expand_good {R : Runs} (h : validR R) : ∀ a ∈ expandR R, goodA a := by
  induction R with
  | nil => intro a ha; simp [expandR] at ha
  | cons x r ih =>
    obtain ⟨b, n⟩ := x
    intro a ha
    simp only [expandR, List.mem_append, List.mem_replicate] at ha
    rcases ha with ⟨_, rfl⟩ | ha
    · exact h (a, n) (by simp)
    · exact ih (fun y hy => h y (List.mem_cons_of_mem _ hy)) a ha
theorem valid_expand {R : Runs} (hn : normR R) (h : ∀ a ∈ expandR R, goodA a) : validR R := by
  induction R with
  | nil => intro x hx; simp at hx
  | cons x r ih =>
    obtain ⟨b, n⟩ := x
    obtain ⟨h1, _, h3⟩ := hn
    intro y hy
    rcases List.mem_cons.1 hy with rfl | hy
    · exact h b (by simp only [expandR, List.mem_append, List.mem_replicate]; exact .inl ⟨by omega, trivial⟩)
    · exact ih h3 (fun a ha => h a (by simp only [expandR, List.mem_append]; exact .inr ha)) y hy
section
variable {z : Nat → Int} {n C F T : Nat} {s m : Int}
theorem put_expand (h : spansOk z n (C : Int) = true) : expandR (putRuns (looksR z n (C : Int)) (s, m) F T C) = (looksS z n C).take F ++ (List.replicate (T - F) (s, m) ++ (looksS z n C).drop T) := by
  rw [expand_put, expand_looks h, Int.toNat_natCast, List.take_of_length_le (i := C) (by rw [looksS_len]; exact Nat.le_refl _)]
theorem put_good (h : spansOk z n (C : Int) = true) (hsp : goodA (s, m)) : validR (putRuns (looksR z n (C : Int)) (s, m) F T C) := by
  have hg := expand_good (valid_looks h)
  rw [expand_looks h, Int.toNat_natCast] at hg
  refine valid_expand (norm_put _ _ _ _ _) (fun a ha => ?_)
  rw [put_expand h] at ha
  simp only [List.mem_append, List.mem_replicate] at ha
  rcases ha with ha | ⟨_, rfl⟩ | ha
  · exact hg a (List.mem_of_mem_take ha)
  · exact hsp
  · exact hg a (List.mem_of_mem_drop ha)
theorem put_cntC (h : spansOk z n (C : Int) = true) (hFT : F ≤ T) (hTC : T ≤ C) : cntR (putRuns (looksR z n (C : Int)) (s, m) F T C) = C := by
  rw [← cnt_len, put_expand h]
  simp [looksS_len]
  omega
theorem put_get (h : spansOk z n (C : Int) = true) (hFT : F ≤ T) (hTC : T ≤ C) {i : Nat} (hi : i < C) : (expandR (putRuns (looksR z n (C : Int)) (s, m) F T C))[i]? = some (if F ≤ i ∧ i < T then (s, m) else lookAt z n (i : Int)) := by
  rw [put_expand h]
  have hl : ((looksS z n C).take F).length = F := by simp [looksS_len]; omega
  by_cases h1 : i < F
  · rw [List.getElem?_append_left (by omega), List.getElem?_take, if_pos h1, if_neg (by omega), looks_at hi]
  · rw [List.getElem?_append_right (by omega), hl]
    by_cases h2 : i < T
    · rw [List.getElem?_append_left (by simp; omega), List.getElem?_replicate, if_pos (by omega), if_pos ⟨by omega, h2⟩]
    · rw [List.getElem?_append_right (by simp; omega), List.length_replicate, if_neg (by omega), List.getElem?_drop, show T + (i - F - (T - F)) = i by omega, looks_at hi]
/-- Put again it changes nothing. -/
theorem put_again (h : spansOk z n (C : Int) = true) (hFT : F ≤ T) (hTC : T ≤ C) : putRuns (putRuns (looksR z n (C : Int)) (s, m) F T C) (s, m) F T C = putRuns (looksR z n (C : Int)) (s, m) F T C := by
  refine norm_ext (norm_put _ _ _ _ _) (norm_put _ _ _ _ _) ?_
  have hc := put_cntC (s := s) (m := m) h hFT hTC
  rw [expand_put, List.take_of_length_le (i := C) (by rw [cnt_len, hc]; exact Nat.le_refl _), put_expand h]
  have hl : ((looksS z n C).take F).length = F := by simp [looksS_len]; omega
  rw [List.take_append_of_le_length (by omega), List.take_of_length_le (by omega)]
  congr 1
  congr 1
  rw [List.drop_append, hl, List.drop_of_length_le (by omega), List.nil_append, List.drop_append, List.length_replicate, List.drop_of_length_le (by simp), List.nil_append, Nat.sub_self, List.drop_zero]
end
/-- What is put, once told. -/
theorem putS_told {z : Nat → Int} {n : Nat} {C F T : Nat} {s m : Int} (hb : putB z n (C : Int) (F : Int) (T : Int) s m = true) :
    putB (fn (spR 0 (putS z n (C : Int) (F : Int) (T : Int) s m))) (spQ 0 (putS z n (C : Int) (F : Int) (T : Int) s m)).length (C : Int) (F : Int) (T : Int) s m = true ∧
    putS (fn (spR 0 (putS z n (C : Int) (F : Int) (T : Int) s m))) (spQ 0 (putS z n (C : Int) (F : Int) (T : Int) s m)).length (C : Int) (F : Int) (T : Int) s m = putS z n (C : Int) (F : Int) (T : Int) s m ∧
    spansOk (fn (spR 0 (putS z n (C : Int) (F : Int) (T : Int) s m))) (spQ 0 (putS z n (C : Int) (F : Int) (T : Int) s m)).length (C : Int) = true ∧
    ∀ i : Nat, i < C → spanAt (fn (spR 0 (putS z n (C : Int) (F : Int) (T : Int) s m))) (spQ 0 (putS z n (C : Int) (F : Int) (T : Int) s m)).length (i : Int) = if F ≤ i ∧ i < T then (s, m) else spanAt z n (i : Int) := by
  have hb0 := hb
  unfold putB at hb0
  rw [Bool.and_eq_true, Bool.and_eq_true, decide_eq_true_eq] at hb0
  obtain ⟨hok, hsp, h12⟩ := hb0
  have e : putS z n (C : Int) (F : Int) (T : Int) s m = putRuns (looksR z n (C : Int)) (s, m) F T C := by unfold putS putR; rw [if_pos hb]; simp
  have e2 : putR z n (C : Int) (F : Int) (T : Int) s m = putRuns (looksR z n (C : Int)) (s, m) F T C := by unfold putR; simp
  obtain ⟨q1, q2, q3, q4, q5, q6, q7, q8⟩ := spOk_parts hsp
  have hc80 := (spansOk_out hok).1
  rw [e2] at h12
  rw [e]
  have hFT : F ≤ T := by omega
  have hTC : T ≤ C := by omega
  have hv := put_good (F := F) (T := T) hok (show goodA (s, m) from ⟨q5, q6, q7, q8⟩)
  have hn := norm_put (looksR z n (C : Int)) (s, m) F T C
  have hcn := put_cntC (s := s) (m := m) hok hFT hTC
  have hC : C ≤ 80 := by omega
  have hto := told_ok hv hn h12 hcn hC
  have hbk : looksR (fn (spR 0 (putRuns (looksR z n (C : Int)) (s, m) F T C))) (spQ 0 (putRuns (looksR z n (C : Int)) (s, m) F T C)).length (C : Int) = putRuns (looksR z n (C : Int)) (s, m) F T C := by
    have := runs_back hv hn h12 (by omega)
    rw [hcn] at this
    exact this
  have e3 : putR (fn (spR 0 (putRuns (looksR z n (C : Int)) (s, m) F T C))) (spQ 0 (putRuns (looksR z n (C : Int)) (s, m) F T C)).length (C : Int) (F : Int) (T : Int) s m = putRuns (looksR z n (C : Int)) (s, m) F T C := by
    unfold putR
    rw [hbk]
    simp only [Int.toNat_natCast]
    exact put_again hok hFT hTC
  have hb2 : putB (fn (spR 0 (putRuns (looksR z n (C : Int)) (s, m) F T C))) (spQ 0 (putRuns (looksR z n (C : Int)) (s, m) F T C)).length (C : Int) (F : Int) (T : Int) s m = true := by
    unfold putB
    rw [hto, hsp, e3]
    simpa using h12
  refine ⟨hb2, ?_, hto, fun i hi => ?_⟩
  · unfold putS
    rw [if_pos hb2, e3]
  · have g := told_at hv hn h12 hcn hC hi
    rw [put_get hok hFT hTC hi, ← spanAt_ok hok (a := (i : Int))] at g
    exact (Option.some.inj g).symm
end Go.Proofs.Ytobmdefklgkoiaa
