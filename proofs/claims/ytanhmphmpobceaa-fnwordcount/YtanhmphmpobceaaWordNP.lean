import Derived.Test.YtanhmphmpobceaaWordF
import Derived.Test.YtanhmphmpobceaaDrawWs
import Derived.Test.YtanhmphmpobceaaWcOk
import Derived.Test.YtanhmphmpobceaaOwnApp
namespace Go.Proofs.Ytanhmphmpobceaa
open Go.ChangeShapes Go.WideShapes Go.ChangeAt Go.RowKit
set_option linter.unusedSimpArgs false

theorem joins_plain {z : Nat → Int} {k : Nat} (h1 : z k ≠ 10) (h2 : bidi (z k) ≠ 9) (h3 : z k ≠ 8205) (h4 : flag (z k) = false) : joins z k = false := by
  unfold joins
  by_cases h : z k = 10 ∨ z (k - 1) = 10
  · rw [if_pos h]; simp [h1]
  · rw [if_neg h, if_neg (by omega), h4]; rfl
theorem begins_plain {z : Nat → Int} {k : Nat} (h1 : z k ≠ 10) (h2 : bidi (z k) ≠ 9) (h3 : z k ≠ 8205) (h4 : flag (z k) = false) : begins z k = true := by
  simp [begins, joins_plain h1 h2 h3 h4]
theorem begins_32 {z : Nat → Int} {k : Nat} (h : z k = 32) : begins z k = true := begins_plain (by omega) (by rw [h]; decide) (by omega) (by rw [h]; decide)
theorem begins_97 {z : Nat → Int} {k : Nat} (h : z k = 97) : begins z k = true := begins_plain (by omega) (by rw [h]; decide) (by omega) (by rw [h]; decide)
theorem begins_98 {z : Nat → Int} {k : Nat} (h : z k = 98) : begins z k = true := begins_plain (by omega) (by rw [h]; decide) (by omega) (by rw [h]; decide)
theorem word_32 : wordC 32 = false := by decide
theorem word_97 : wordC 97 = true := by decide
theorem word_98 : wordC 98 = true := by decide
theorem cnt3 {z : Nat → Int} {n : Nat} (h0 : z n = 32) (h1 : z (n + 1) = 97) (h2 : z (n + 2) = 98) : wcnt z (wstarts z (n + 3)) = wcnt z (wstarts z n) + 1 := by
  have a0 : atOf z n = n := (atOf_self z n).2 (begins_32 h0)
  have a1 : atOf z (n + 1) = n + 1 := (atOf_self z (n + 1)).2 (begins_97 h1)
  have w1 : wbeg z (n + 1) = true := by simp only [wbeg]; rw [begins_97 h1, a0, h0, h1, word_32, word_97]; rfl
  have w2 : wbeg z (n + 1 + 1) = false := by simp only [wbeg]; rw [a1, h1, show z (n + 1 + 1) = 98 from h2, word_97, word_98]; simp
  rw [show n + 3 = n + 1 + 1 + 1 by omega, wcnt_no (by rw [w2]; rfl), wcnt_yes w1 (by rw [h1]; exact word_97), wcnt_no (by rw [h0, word_32]; simp)]
theorem cnt2 {z : Nat → Int} {n : Nat} (h0 : z n = 32) (h1 : z (n + 1) = 32) : wcnt z (wstarts z (n + 2)) = wcnt z (wstarts z n) := by
  rw [show n + 2 = n + 1 + 1 by omega, wcnt_no (by rw [h1, word_32]; simp), wcnt_no (by rw [h0, word_32]; simp)]
theorem wrunOf_congr {z y : Nat → Int} {n : Nat} (h : ∀ j, j < n → z j = y j) : runOf z n = runOf y n := by
  induction n with
  | zero => rfl
  | succ n ih => simp only [runOf]; rw [h n (by omega), ih (fun j hj => h j (by omega))]
theorem wjoins_congr {z y : Nat → Int} {n k : Nat} (h : ∀ j, j < n → z j = y j) (hk : k < n) : joins z k = joins y k := by
  unfold joins
  rw [h k hk, h (k - 1) (by omega), wrunOf_congr (fun j hj => h j (by omega))]
theorem atOf_congr {z y : Nat → Int} {n k : Nat} (h : ∀ j, j < n → z j = y j) (hk : k < n) : atOf z k = atOf y k := by
  induction k with
  | zero => rfl
  | succ k ih => simp only [atOf]; rw [wjoins_congr h hk, ih (by omega)]
theorem wbeg_congr {z y : Nat → Int} {n k : Nat} (h : ∀ j, j < n → z j = y j) (hk : k < n) : wbeg z k = wbeg y k := by
  cases k with
  | zero => rfl
  | succ k =>
    have := atOf_le y k
    simp only [wbeg, begins]
    rw [wjoins_congr h hk, atOf_congr h (by omega), h (k + 1) hk, h (atOf y k) (by omega)]
theorem wstarts_congr {z y : Nat → Int} {n : Nat} (h : ∀ j, j < n → z j = y j) : wstarts z n = wstarts y n := by
  have : ∀ m, m ≤ n → wstarts z m = wstarts y m := by
    intro m
    induction m with
    | zero => intro _; rfl
    | succ m ih => intro hm; simp only [wstarts]; rw [wbeg_congr h (by omega), ih (by omega)]
  exact this n (Nat.le_refl _)
theorem wcnt_congr {z y : Nat → Int} {s : List Int} (h : ∀ x ∈ s, z x.toNat = y x.toNat) : wcnt z s = wcnt y s := by
  induction s with
  | nil => rfl
  | cons x s ih => simp only [wcnt]; rw [h x (by simp), ih (fun a ha => h a (by simp [ha]))]
theorem cnt_pre {z y : Nat → Int} {n : Nat} (h : ∀ j, j < n → z j = y j) : wcnt z (wstarts z n) = wcnt y (wstarts y n) := by
  rw [wstarts_congr h]
  refine wcnt_congr fun x hx => ?_
  obtain ⟨k, h1, rfl, _⟩ := (mem_wstarts y n x).1 hx
  simpa using h k h1
theorem okF_app {l m : List Int} (h : okF (fn l) l.length = true) (hm : ∀ j, j < m.length → letter (fn m j) = true) (hn : (l ++ m).length ≤ 80) : okF (fn (l ++ m)) (l ++ m).length = true := by
  rw [okF_all (fun j hj => ?_)]
  · simpa using hn
  · rcases Nat.lt_or_ge j l.length with c | c
    · rw [fn_append_left c]; exact okF_get h c
    · have : fn (l ++ m) j = fn m (j - l.length) := by simp [fn, List.getD, List.getElem?_append_right c]
      rw [this]; exact hm _ (by rw [List.length_append] at hj; omega)
theorem fn_app (l m : List Int) (j : Nat) : fn (l ++ m) (l.length + j) = fn m j := by
  simp [fn, List.getD, List.getElem?_append_right]
theorem wordsN_x {l : List Int} (h : okF (fn l) l.length = true) (hn : l.length + 3 ≤ 80) : wordsN (l ++ [32, 97, 98]) = wordsN l + 1 := by
  have hx : okF (fn (l ++ [32, 97, 98])) (l ++ [32, 97, 98]).length = true := okF_app h (fun j hj => by
    match j, hj with
    | 0, _ => decide
    | 1, _ => decide
    | 2, _ => decide) (by simp; omega)
  unfold wordsN
  rw [words_ok hx, words_ok h]
  have e : (l ++ [32, 97, 98]).length = l.length + 3 := by simp
  rw [e, cnt3 (n := l.length) (by rw [← Nat.add_zero l.length, fn_app]; rfl) (by rw [fn_app]; rfl) (by rw [fn_app]; rfl), cnt_pre (y := fn l) (fun j hj => fn_append_left hj)]
  simp
theorem wordsN_y {l : List Int} (h : okF (fn l) l.length = true) (hn : l.length + 3 ≤ 80) : wordsN (l ++ [32, 32]) = wordsN l := by
  have hx : okF (fn (l ++ [32, 32])) (l ++ [32, 32]).length = true := okF_app h (fun j hj => by
    match j, hj with
    | 0, _ => decide
    | 1, _ => decide) (by simp; omega)
  unfold wordsN
  rw [words_ok hx, words_ok h]
  have e : (l ++ [32, 32]).length = l.length + 2 := by simp
  rw [e, cnt2 (n := l.length) (by rw [← Nat.add_zero l.length, fn_app]; rfl) (by rw [fn_app]; rfl), cnt_pre (y := fn l) (fun j hj => fn_append_left hj)]
theorem own_lit2 (w : World) (B : Nat) (T : TypeId) (x y : Int) (h : B ≤ w.heap.size) (hT : T = 3) : OwnI (w.alloc (.cells #[.int .i64 x, .int .i64 y] T)) B (.slice (some ⟨w.heap.size, 0, none⟩) 2 2) [x, y] := by
  subst hT
  exact ⟨by simp, .inr ⟨w.heap.size, 2, #[.int .i64 x, .int .i64 y], rfl, h, heap_alloc_new w _, by simp, by unfold maxLen; omega, by simp, by simp⟩⟩
end Go.Proofs.Ytanhmphmpobceaa
