import Derived.Test.YtnaiaponkafcpaaBaseLaw
namespace Go.Proofs.Ytnaiaponkafcpaa
open Go.ChangeShapes Go.WideShapes Go.ChangeAt Go.RowKit
set_option linter.unusedSimpArgs false

theorem dp_shift {c c' : Nat → Int} {q : Nat} (h : ∀ j, c' (j + q) = c j) (i m : Nat) : dp c' (i + q) m = dp c i m := by
  induction m with
  | zero => rfl
  | succ m ih => rw [dp_succ, dp_succ, ih, show i + q + m = (i + m) + q by omega, h]
def mtUp (mt : Nat → Nat) (i : Nat) : Nat := if i = 0 then 2 else mt (i - 3) + 3
theorem mtUp_is {c c' : Nat → Int} {n : Nat} {mt : Nat → Nat} (h : ∀ j, c' (j + 3) = c j) (h0 : c' 0 = 20) (h1 : c' 1 = 2) (h2 : c' 2 = 22) (hm : MateFn c n mt) : MateFn c' (n + 3) (mtUp mt) := by
  intro i hi ho
  rcases (show i = 0 ∨ i = 1 ∨ i = 2 ∨ 3 ≤ i by omega) with rfl | rfl | rfl | h3
  · left
    have e1 : dp c' 0 1 = 1 := by simp [dp, h0, del, opensB]
    have e2 : dp c' 0 2 = 1 := by simp [dp, h0, h1, del, opensB]
    have e3 : dp c' 0 3 = 0 := by simp [dp, h0, h1, h2, del, opensB]
    refine ⟨⟨by simp [mtUp], by simpa [mtUp] using e3, fun m hm1 hm2 => ?_⟩, by simp [mtUp]⟩
    simp [mtUp] at hm2
    rcases (show m = 1 ∨ m = 2 by omega) with rfl | rfl
    · rw [e1]; omega
    · rw [e2]; omega
  · rw [h1] at ho; simp [opensB] at ho
  · rw [h2] at ho; simp [opensB] at ho
  · obtain ⟨j, rfl⟩ : ∃ j, i = j + 3 := ⟨i - 3, by omega⟩
    rw [h] at ho
    have e : mtUp mt (j + 3) = mt j + 3 := by simp [mtUp]
    rw [e]
    rcases hm j (by omega) ho with ⟨a, b⟩ | ⟨a, b⟩
    · left
      refine ⟨⟨by have := a.lt; omega, ?_, fun m hm1 hm2 => ?_⟩, by omega⟩
      · rw [dp_shift h, show mt j + 3 + 1 - (j + 3) = mt j + 1 - j by omega]; exact a.zero
      · rw [dp_shift h]; exact a.pos m hm1 (by omega)
    · right
      refine ⟨by omega, fun m hm1 hm2 => ?_⟩
      rw [dp_shift h]; exact b m hm1 (by omega)
theorem side_shift {c c' : Nat → Int} {n : Nat} {mt : Nat → Nat} (h : ∀ j, c' (j + 3) = c j) : ∀ d j, n - j = d → sideFrom c' (mtUp mt) (n + 3) (j + 3) = sideFrom c mt n j := by
  intro d
  induction d using Nat.strongRecOn with
  | _ d ih =>
    intro j hd
    have e : mtUp mt (j + 3) = mt j + 3 := by simp [mtUp]
    by_cases hj : j < n
    · by_cases c1 : c j = 1
      · rw [side_L (by omega) (by rw [h]; exact c1), side_L hj c1]
      · by_cases c2 : c j = 2 ∨ c j = 3
        · rw [side_R (by omega) (by rw [h]; exact c1) (by rw [h]; exact c2), side_R hj c1 c2]
        · by_cases ho : opensB (c j) = true
          · by_cases hm : j < mt j
            · rw [side_open (by omega) (by rw [h]; exact c1) (by rw [h]; exact c2) (by rw [h]; exact ho) (by rw [e]; omega), side_open hj c1 c2 ho hm, e, show mt j + 3 + 1 = (mt j + 1) + 3 by omega]
              exact ih _ (by omega) _ rfl
            · rw [side_eq, dif_pos (by omega), if_neg (by rw [h]; exact c1), if_neg (by rw [h]; exact c2), if_pos (by rw [h]; exact ho), dif_neg (by rw [e]; omega)]
              rw [side_eq, dif_pos hj, if_neg c1, if_neg c2, if_pos ho, dif_neg hm]
          · have ho2 : opensB (c j) = false := by simpa using ho
            rw [side_other (by omega) (by rw [h]; exact c1) (by rw [h]; exact c2) (by rw [h]; exact ho2), side_other hj c1 c2 ho2, show j + 3 + 1 = (j + 1) + 3 by omega]
            exact ih _ (by omega) _ rfl
    · rw [side_end (by omega), side_end hj]
theorem side_range {c : Nat → Int} {mt : Nat → Nat} {n : Nat} : ∀ d j, n - j = d → 0 ≤ sideFrom c mt n j ∧ sideFrom c mt n j ≤ 1 := by
  intro d
  induction d using Nat.strongRecOn with
  | _ d ih =>
    intro j hd
    by_cases hj : j < n
    · rw [side_eq, dif_pos hj]
      split
      · omega
      · split
        · omega
        · split
          · split
            · exact ih _ (by omega) _ rfl
            · omega
          · exact ih _ (by omega) _ rfl
    · rw [side_end hj]; omega
theorem baseIs_range {l : List Int} {W : Int} (h : BaseIs l W) : 0 ≤ W ∧ W ≤ 1 := by
  rcases h with ⟨_, rfl⟩ | ⟨mt, _, _, rfl⟩
  · omega
  · exact side_range _ 0 rfl
theorem fn_cons_zero (x : Int) (l : List Int) : fn (x :: l) 0 = x := by simp [fn]
theorem fn_cons_succ (x : Int) (l : List Int) (j : Nat) : fn (x :: l) (j + 1) = fn l j := by simp [fn]
theorem okF_more {l p : List Int} (hp : ∀ x ∈ p, letter x = true) (h : okF (fn l) l.length = true) (h80 : p.length + l.length ≤ 80) : okF (fn (p ++ l)) (p ++ l).length = true := by
  rw [okF_all (fun j hj => ?_)]
  · simp; omega
  · by_cases hj2 : j < p.length
    · rw [fn_append_left hj2, fn_get hj2]; exact hp _ (List.getElem_mem hj2)
    · obtain ⟨i, rfl⟩ : ∃ i, j = p.length + i := ⟨j - p.length, by omega⟩
      have e : fn (p ++ l) (p.length + i) = fn l i := by simp only [fn, List.getD]; rw [List.getElem?_append_right (Nat.le_add_right _ _), Nat.add_sub_cancel_left]
      rw [e]
      exact okF_get h (by simp at hj; omega)
theorem base_L {l : List Int} (h : okF (fn l) l.length = true) (h80 : 1 + l.length ≤ 80) : BaseIs ([97] ++ l) 0 := by
  have hok := okF_more (p := [97]) (by intro x hx; simp at hx; subst hx; decide) h (by simpa using h80)
  obtain ⟨mt, hmt⟩ := mt_exists (cl ([97] ++ l)) ([97] ++ l).length
  have := BaseIs.good mt hok hmt
  rwa [side_L (by simp) (by show bidi 97 = 1; decide)] at this
theorem base_R {l : List Int} (h : okF (fn l) l.length = true) (h80 : 1 + l.length ≤ 80) : BaseIs ([1488] ++ l) 1 := by
  have hok := okF_more (p := [1488]) (by intro x hx; simp at hx; subst hx; decide) h (by simpa using h80)
  obtain ⟨mt, hmt⟩ := mt_exists (cl ([1488] ++ l)) ([1488] ++ l).length
  have := BaseIs.good mt hok hmt
  rwa [side_R (by simp) (by show bidi 1488 ≠ 1; decide) (by show bidi 1488 = 2 ∨ bidi 1488 = 3; decide)] at this
theorem base_alone {l : List Int} {W : Int} (hW : BaseIs l W) (h : okF (fn l) l.length = true) (h80 : 3 + l.length ≤ 80) : BaseIs ([8295, 1488, 8297] ++ l) W := by
  rcases hW with ⟨hb, _⟩ | ⟨mt, _, hmt, rfl⟩
  · rw [h] at hb; cases hb
  · have hok := okF_more (p := [8295, 1488, 8297]) (by intro x hx; simp at hx; rcases hx with rfl | rfl | rfl <;> decide) h (by simpa using h80)
    have hs : ∀ j, cl ([8295, 1488, 8297] ++ l) (j + 3) = cl l j := fun j => by simp [cl, fn]
    have hlen : ([8295, 1488, 8297] ++ l).length = l.length + 3 := by simp
    have hm := mtUp_is hs (by show bidi 8295 = 20; decide) (by show bidi 1488 = 2; decide) (by show bidi 8297 = 22; decide) hmt
    rw [← hlen] at hm
    have g := BaseIs.good (mtUp mt) hok hm
    have e : sideFrom (cl ([8295, 1488, 8297] ++ l)) (mtUp mt) ([8295, 1488, 8297] ++ l).length 0 = sideFrom (cl l) mt l.length 0 := by
      rw [side_open (by simp) (by show bidi 8295 ≠ 1; decide) (by show ¬ (bidi 8295 = 2 ∨ bidi 8295 = 3); decide) (by show opensB (bidi 8295) = true; decide) (by simp [mtUp]), hlen]
      exact side_shift hs _ 0 rfl
    rwa [e] at g
end Go.Proofs.Ytnaiaponkafcpaa
