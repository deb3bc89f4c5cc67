import Derived.Test.YteefeciiaekdlaaScrP
import Derived.Test.YteefeciiaekdlaaScrSR
import Derived.Test.YteefeciiaekdlaaRunFacts
namespace Go.Proofs.Yteefeciiaekdlaa
open Go.ChangeShapes Go.WideShapes Go.ChangeAt Go.RowKit
set_option linter.unusedSimpArgs false

/-- The letters without a mate. -/
def lone (z : Nat → Int) : Nat → List Int
  | 0 => []
  | k + 1 => if mate (z k) = 0 then lone z k ++ [z k] else lone z k
theorem lone_len (z : Nat → Int) (k : Nat) : (lone z k).length ≤ k := by
  induction k with
  | zero => exact Nat.le_refl _
  | succ k ih => simp only [lone]; split <;> (try simp) <;> omega
theorem lone_all {z : Nat → Int} {n : Nat} (h : ∀ j, j < n → letter (z j) = true) (k : Nat) (hk : k ≤ n) : ∀ x, x ∈ lone z k → mate x = 0 ∧ letter x = true := by
  induction k with
  | zero => intro x hx; simp [lone] at hx
  | succ k ih =>
    intro x hx
    simp only [lone] at hx
    split at hx
    · rename_i e
      simp at hx
      rcases hx with hx | rfl
      · exact ih (by omega) x hx
      · exact ⟨e, h k (by omega)⟩
    · exact ih (by omega) x hx
theorem scr_range (r : Int) : 0 ≤ scr r ∧ scr r ≤ 4 := by
  unfold scr
  (repeat' split) <;> omega
theorem fn_mem {l : List Int} {j : Nat} (h : j < l.length) : fn l j ∈ l := by rw [fn_get h]; exact List.getElem_mem h
/-- Letters without a mate leave the brackets as they are. -/
theorem lone_stack {z : Nat → Int} {f : Int} {s k : Nat} (h : ∀ j, s ≤ j → j < k → mate (z j) = 0 ∧ 0 ≤ z j) (hs : s ≤ k) : (sAt z f k).2 = (sAt z f s).2 := by
  induction k with
  | zero => have : s = 0 := by omega
            subst this; rfl
  | succ k ih =>
    by_cases e : s = k + 1
    · subst e; rfl
    · have hk := h k (by omega) (by omega)
      rw [← ih (fun j h1 h2 => h j h1 (by omega)) (by omega)]
      simp only [sAt]
      by_cases a : scr (z k) = 0
      · rw [sStep_none a (by omega) hk.1]
      · rw [sStep_scr a]
/-- What P63 asks of letters between brackets. -/
theorem mates_scr {p : List Int} (hp : ∀ x, x ∈ p → mate x = 0 ∧ letter x = true) (hl : p.length + 3 ≤ 80) :
    (scripts ([97, 40] ++ p ++ [41])).length = p.length + 3 ∧ fn (scripts ([97, 40] ++ p ++ [41])) 1 = 1 ∧ fn (scripts ([97, 40] ++ p ++ [41])) (p.length + 2) = 1 := by
  obtain ⟨x, hx⟩ : ∃ x, [97, 40] ++ p ++ [41] = x := ⟨_, rfl⟩
  have hn : x.length = p.length + 3 := by rw [← hx]; simp
  have x0 : fn x 0 = 97 := by rw [← hx]; rfl
  have x1 : fn x 1 = 40 := by rw [← hx]; rfl
  have xm : ∀ j, j < p.length → fn x (j + 2) = fn p j := fun j hj => by
    rw [← hx]; simp only [fn, List.getD, List.cons_append, List.nil_append, List.getElem?_cons_succ]
    rw [List.getElem?_append_left hj]
  have xe : fn x (p.length + 2) = 41 := by
    rw [← hx]; simp only [fn, List.getD, List.cons_append, List.nil_append, List.getElem?_cons_succ]
    simp
  have hall : ∀ j, j < x.length → letter (fn x j) = true := fun j hj => by
    by_cases e0 : j = 0
    · subst e0; rw [x0]; decide
    · by_cases e1 : j = 1
      · subst e1; rw [x1]; decide
      · by_cases e2 : j = p.length + 2
        · subst e2; rw [xe]; decide
        · obtain ⟨i, rfl⟩ : ∃ i, j = i + 2 := ⟨j - 2, by omega⟩
          rw [xm i (by omega)]; exact (hp _ (fn_mem (by omega))).2
  have hok : okF (fn x) x.length = true := by rw [okF_all hall]; simp; omega
  have hf : firstS (fn x) x.length x.length = 1 := by
    have := firstS_yes (z := fn x) (n := x.length) (k := 0) (by omega) (by rw [x0]; decide)
    rw [Nat.sub_zero] at this; rw [this, x0]; decide
  rw [hx, scripts_ok hok, hf, scrOut_len]
  have s1 : sAt (fn x) 1 1 = (1, []) := by
    simp only [sAt]; rw [x0, sStep_scr (by decide)]; rfl
  have s2 : sAt (fn x) 1 2 = (1, [40, 1]) := by
    rw [show sAt (fn x) 1 2 = sStep (sAt (fn x) 1 1).1 (sAt (fn x) 1 1).2 (fn x 1) from rfl, s1, x1, sStep_open (by decide) (by decide)]; rfl
  have st : (sAt (fn x) 1 (p.length + 2)).2 = [40, 1] := by
    rw [lone_stack (s := 2) (fun j h1 h2 => ?_) (by omega), s2]
    obtain ⟨i, rfl⟩ : ∃ i, j = i + 2 := ⟨j - 2, by omega⟩
    rw [xm i (by omega)]
    have := hp _ (fn_mem (l := p) (j := i) (by omega))
    exact ⟨this.1, (letter_bounds this.2).1⟩
  refine ⟨hn, ?_, ?_⟩
  · rw [fn_scrOut _ _ _ _ (by omega), s2]
  · rw [fn_scrOut _ _ _ _ (by omega)]
    rw [show sAt (fn x) 1 (p.length + 2 + 1) = sStep (sAt (fn x) 1 (p.length + 2)).1 (sAt (fn x) 1 (p.length + 2)).2 (fn x (p.length + 2)) from rfl, st, xe]
    rw [sStep_hit (m := 1) (k := 0) (by decide) (by decide) (by decide) rfl (by decide)]
    rfl
/-- Where the runs of scripts begin. -/
theorem scr_runs {l : List Int} {n m : Nat} (hn : (scripts l).length = n) (hm : (runsR (scripts l)).length = m * 3) :
    ∃ e : Nat → Nat, e 0 = 0 ∧ e m = n ∧ ∀ i, i < m → fn (runsR (scripts l)) (i * 3) = (e i : Int) ∧ fn (runsR (scripts l)) (i * 3 + 1) = (e (i + 1) : Int) ∧ e i < e (i + 1) ∧ e (i + 1) ≤ n ∧ ∀ p, e i ≤ p → p < e (i + 1) → fn (scripts l) p = fn (runsR (scripts l)) (i * 3 + 2) := by
  have h80 := scripts_len l
  have hrg : ∀ p, p < n → 0 ≤ fn (scripts l) p ∧ fn (scripts l) p ≤ 4 := fun p hp => by
    rcases Classical.em (okF (fn l) l.length = true) with hok | hok
    · rw [scripts_ok hok] at hn ⊢
      rw [scrOut_len] at hn
      rw [fn_scrOut _ _ _ _ (by omega)]
      refine (sAt_inv (fun x => 0 ≤ x ∧ x ≤ 4) ?_ (p + 1) (fun j _ _ => scr_range _)).1
      rcases firstS_any (fn l) l.length l.length (Nat.le_refl _) with ⟨h1, _⟩ | _
      · rw [h1]; omega
      · have : ∀ d, d ≤ l.length → 0 ≤ firstS (fn l) l.length d ∧ firstS (fn l) l.length d ≤ 4 := fun d _ => by
          induction d with
          | zero => simp [firstS]
          | succ d ih => simp only [firstS]; split
                         · exact scr_range _
                         · exact ih (by omega)
        exact this _ (Nat.le_refl _)
    · rw [scripts_bad (by simpa using hok)] at hn; simp at hn; omega
  have hlv : lvF (fn (scripts l)) (scripts l).length = true := by
    rw [lvF_all (fun j hj => ?_)]
    · simp; omega
    · have := hrg j (by omega)
      simp [lvl]; omega
  by_cases h0 : n = 0
  · have he : runsR (scripts l) = [] := by unfold runsR; rw [if_neg]; intro hh; exact hh.2 (by omega)
    rw [he] at hm
    have : m = 0 := by simp at hm; omega
    subst this
    exact ⟨fun _ => 0, rfl, h0.symm, fun i hi => by omega⟩
  · have he : runsR (scripts l) = flat (fn (scripts l)) n := by unfold runsR; rw [if_pos ⟨hlv, by omega⟩, hn]
    rw [he] at hm ⊢
    have hm1 : 0 < m := by simp [flat] at hm; omega
    have R := fun i hi => run_at (z := fn (scripts l)) (k := n) (n := m) (by omega) hm i hi
    refine ⟨fun i => if i = 0 then 0 else (fn (flat (fn (scripts l)) n) ((i - 1) * 3 + 1)).toNat, rfl, ?_, fun i hi => ?_⟩
    · obtain ⟨a, t, _, h2, _, _, _, _, h7, _⟩ := R (m - 1) (by omega)
      have := h7 (by omega)
      simp only [show ¬ m = 0 by omega, if_false]
      rw [h2]; omega
    · obtain ⟨a, t, h1, h2, h3, h4, h5, h6, h7, h8⟩ := R i hi
      have ea : (if i = 0 then 0 else (fn (flat (fn (scripts l)) n) ((i - 1) * 3 + 1)).toNat) = a := by
        by_cases e : i = 0
        · rw [if_pos e, h5 e]
        · rw [if_neg e, (h6 (i - 1) (by omega)).1]; omega
      have et : (if i + 1 = 0 then 0 else (fn (flat (fn (scripts l)) n) ((i + 1 - 1) * 3 + 1)).toNat) = t := by
        rw [if_neg (by omega), show i + 1 - 1 = i by omega, h2]; omega
      simp only [ea, et]
      exact ⟨h1, h2, h3, h4, fun p hp1 hp2 => h8 p hp1 hp2 (hrg p (by omega)).1⟩
theorem own_two (w : World) (B : Nat) (x y : Int) (h : B ≤ w.heap.size) : OwnI (w.alloc (.cells #[.int .i64 x, .int .i64 y] 3)) B (.slice (some ⟨w.heap.size, 0, none⟩) 2 2) [x, y] :=
  ⟨by simp, .inr ⟨w.heap.size, 2, #[.int .i64 x, .int .i64 y], rfl, h, heap_alloc_new w _, Nat.le_refl _, by unfold maxLen; omega, rfl, rfl⟩⟩
end Go.Proofs.Yteefeciiaekdlaa
