import Derived.Test.YtbeecmcgdlnakaaBrkM
namespace Go.Proofs.Ytbeecmcgdlnakaa
set_option linter.unusedSimpArgs false
set_option linter.unusedVariables false

/-- Pairs do not cross, and nothing that is open stands within one. -/
structure GoodX (l : Nat → Int) (mate : Int → Int) (O : List Nat) (P : List (Nat × Nat)) : Prop where
  io : ∀ p ∈ P, ∀ o ∈ O, ¬ (p.1 < o ∧ o < p.2)
  nx : ∀ p ∈ P, ∀ q ∈ P, ¬ (p.1 < q.1 ∧ q.1 < p.2 ∧ p.2 < q.2)
  n2 : P.Pairwise (fun a b => a.2 ≠ b.2)
  mt : ∀ p ∈ P, mate (l p.1) = l p.2
theorem goodX_step {l c : Nat → Int} {mate : Int → Int} {i : Nat} {O : List Nat} {P : List (Nat × Nat)} (hinv : ∀ r, mate r ≠ 0 → mate (mate r) = r) (hg : GoodB i O P) (h : GoodX l mate O P) : GoodX l mate (stepB l c mate i O P).1 (stepB l c mate i O P).2 := by
  unfold stepB
  split
  · exact h
  · rename_i hm
    split
    · refine ⟨fun p hp o ho => ?_, h.nx, h.n2, h.mt⟩
      simp at ho
      rcases ho with ho | rfl
      · exact h.io p hp o ho
      · have := hg.lt2 p hp; omega
    · cases hs : scanF l O (mate (l i)) O.length with
      | none => exact h
      | some k =>
        obtain ⟨hk, hlk, _⟩ := scan_some hs
        have hget : O.getD k 0 = O[k] := by simp [hk]
        rw [hget] at hlk
        have hmem : O[k] ∈ O := List.getElem_mem hk
        show GoodX l mate (O.take k) (P ++ [(O.getD k 0, i)])
        rw [hget]
        refine ⟨fun p hp o ho => ?_, fun p hp q hq => ?_, ?_, fun p hp => ?_⟩
        · simp at hp
          rcases hp with hp | rfl
          · exact h.io p hp o (List.mem_of_mem_take ho)
          · have h2 := hg.inc
            rw [← List.take_append_drop k O, List.pairwise_append] at h2
            have := h2.2.2 _ ho (O[k]) (by rw [List.drop_eq_getElem_cons hk]; exact List.mem_cons_self)
            simp only; omega
        · simp at hp hq
          rcases hp with hp | rfl <;> rcases hq with hq | rfl
          · exact h.nx p hp q hq
          · have h1 := h.io p hp _ hmem
            simp only; omega
          · have h1 := hg.lt2 q hq
            simp only; omega
          · simp only; omega
        · rw [List.pairwise_append]
          exact ⟨h.n2, by simp, fun a ha b hb => by simp at hb; subst hb; have := hg.lt2 a ha; simp only; omega⟩
        · simp at hp
          rcases hp with hp | rfl
          · exact h.mt p hp
          · simp only
            rw [hlk]
            exact hinv _ (fun e => hm (.inl e))
theorem goodX_st (l c : Nat → Int) {mate : Int → Int} (hinv : ∀ r, mate r ≠ 0 → mate (mate r) = r) (n : Nat) : GoodX l mate (stB l c mate n).1 (stB l c mate n).2 := by
  induction n with
  | zero => exact ⟨by simp [stB], by simp [stB], by simp [stB], by simp [stB]⟩
  | succ n ih => exact goodX_step hinv (good_st l c mate n) ih
/-- What is said of pairs, by where they begin. -/
theorem pairs_is (l c : Nat → Int) {mate : Int → Int} (hinv : ∀ r, mate r ≠ 0 → mate (mate r) = r) (n : Nat) (L : List (Nat × Nat)) (hL : L = srtB (stB l c mate n).2) :
    (∀ i (h : i < L.length), (L[i]).1 < (L[i]).2 ∧ (L[i]).2 < n ∧ mate (l (L[i]).1) = l (L[i]).2) ∧ (∀ k i (hk : k < i) (h : i < L.length), (L[k]).1 < (L[i]).1 ∧ (L[k]).2 ≠ (L[i]).2 ∧ ¬ ((L[k]).1 < (L[i]).1 ∧ (L[i]).1 < (L[k]).2 ∧ (L[k]).2 < (L[i]).2)) := by
  have hg := good_st l c mate n
  have hx := goodX_st l c hinv n
  have hp := srt_perm (stB l c mate n).2
  rw [← hL] at hp
  have hs : L.Pairwise (fun a b => a.1 < b.1) := by rw [hL]; exact srt_sorted hg.ne
  have h2 : L.Pairwise (fun a b => a.2 ≠ b.2) := hp.symm.pairwise hx.n2 (fun h e => h e.symm)
  refine ⟨fun i h => ?_, fun k i hk h => ⟨(List.pairwise_iff_getElem.1 hs) k i (by omega) h hk, (List.pairwise_iff_getElem.1 h2) k i (by omega) h hk, ?_⟩⟩
  · have hm := hp.mem_iff.1 (List.getElem_mem h)
    exact ⟨(hg.lt2 _ hm).1, (hg.lt2 _ hm).2, hx.mt _ hm⟩
  · exact hx.nx _ (hp.mem_iff.1 (List.getElem_mem _)) _ (hp.mem_iff.1 (List.getElem_mem h))
end Go.Proofs.Ytbeecmcgdlnakaa
