import Derived.Test.YtobmdefklgkoiaaSpNice
namespace Go.Proofs.Ytobmdefklgkoiaa
set_option linter.unusedSimpArgs false
set_option linter.unusedVariables false

theorem ok80 {z : Nat → Int} {n : Nat} {c : Int} (h : spansOk z n c = true) : spansOk z n 80 = true := by
  obtain ⟨h1, h2⟩ := spansOk_out h
  refine spansOk_yes (by omega) (by omega) (by omega) (fun j hj => ?_)
  have h3 := rowOk_parts (h2 j hj)
  refine rowOk_mk ?_ h3.2
  rw [spOk_iff]
  omega
theorem spanAt_ok {z : Nat → Int} {n : Nat} {c a : Int} (h : spansOk z n c = true) : spanAt z n a = lookAt z n a := by unfold spanAt; rw [if_pos (ok80 h)]
/-- The told spans of good runs. -/
theorem told_ok {R : Runs} {C : Nat} (hv : validR R) (hn : normR R) (h12 : (spQ 0 R).length ≤ 12) (hc : cntR R = C) (h80 : C ≤ 80) : spansOk (fn (spR 0 R)) (spQ 0 R).length (C : Int) = true := by
  rw [← hc]; exact ok_sp hv hn h12 (by omega)
theorem told_at {R : Runs} {C : Nat} (hv : validR R) (hn : normR R) (h12 : (spQ 0 R).length ≤ 12) (hc : cntR R = C) (h80 : C ≤ 80) {i : Nat} (hi : i < C) : (expandR R)[i]? = some (spanAt (fn (spR 0 R)) (spQ 0 R).length (i : Int)) := by
  rw [spanAt_ok (told_ok hv hn h12 hc h80), ← looks_back R, hc]
  simp [looksS, hi]
theorem looks_at {z : Nat → Int} {n C i : Nat} (hi : i < C) : (looksS z n C)[i]? = some (lookAt z n (i : Int)) := by simp [looksS, hi]
theorem told_back {R : Runs} {C : Nat} (hv : validR R) (hn : normR R) (h12 : (spQ 0 R).length ≤ 12) (hc : cntR R = C) (h80 : C ≤ 80) : plainS (fn (spR 0 R)) (spQ 0 R).length (C : Int) = R := by
  unfold plainS
  rw [if_pos (told_ok hv hn h12 hc h80), ← hc]
  exact runs_back hv hn h12 (by omega)
/-- The numbers of a told span. -/
theorem told_cells {R : Runs} {i : Nat} (h : i < (spQ 0 R).length) : fn (spR 0 R) (i * 4) = ((spQ 0 R)[i].1 : Int) ∧ fn (spR 0 R) (i * 4 + 1) = ((spQ 0 R)[i].2.1 : Int) ∧ fn (spR 0 R) (i * 4 + 2) = (spQ 0 R)[i].2.2.1 ∧ fn (spR 0 R) (i * 4 + 3) = (spQ 0 R)[i].2.2.2 := by
  rw [← flat_sp]; exact fn_flat _ i h
/-- What a told span isn't. -/
theorem told_nice {R : Runs} (hn : normR R) {i : Nat} (h : i < (spQ 0 R).length) : ¬ (fn (spR 0 R) (i * 4 + 2) = 10 ∧ fn (spR 0 R) (i * 4 + 3) = 0) ∧ (∀ (hi : 0 < i), ¬ (fn (spR 0 R) ((i - 1) * 4 + 1) = fn (spR 0 R) (i * 4) ∧ fn (spR 0 R) ((i - 1) * 4 + 2) = fn (spR 0 R) (i * 4 + 2) ∧ fn (spR 0 R) ((i - 1) * 4 + 3) = fn (spR 0 R) (i * 4 + 3))) := by
  obtain ⟨e0, e1, e2, e3⟩ := told_cells h
  obtain ⟨g1, g2⟩ := nice_sp hn 0 i h
  refine ⟨by rw [e2, e3]; exact g1, fun hi => ?_⟩
  obtain ⟨d0, d1, d2, d3⟩ := told_cells (R := R) (i := i - 1) (by omega)
  rw [e0, e2, e3, d1, d2, d3]
  have := g2 hi
  omega
end Go.Proofs.Ytobmdefklgkoiaa
