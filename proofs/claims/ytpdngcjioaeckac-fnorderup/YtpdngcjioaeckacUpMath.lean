import Derived.Test.YtpdngcjioaeckacOrdMath
namespace Go.Proofs.Ytpdngcjioaeckac
set_option linter.unusedSimpArgs false

def upV (s x : Int) : Int := if 0 ≤ x then x + s else x
def upF (s : Int) (z : Nat → Int) : Nat → List Int
  | 0 => []
  | k + 1 => upF s z k ++ [upV s (z k)]
theorem upF_len (s : Int) (z : Nat → Int) (k : Nat) : (upF s z k).length = k := by
  induction k with
  | zero => rfl
  | succ k ih => simp [upF, ih]
theorem fn_upF (s : Int) (z : Nat → Int) (k j : Nat) (h : j < k) : fn (upF s z k) j = upV s (z j) := by
  induction k with
  | zero => omega
  | succ k ih =>
    simp only [upF]
    by_cases e : j = k
    · subst e
      have := fn_snoc (upF s z j) (upV s (z j))
      rwa [upF_len] at this
    · rw [fn_append_left (by rw [upF_len]; omega)]; exact ih (by omega)
theorem lvF_up {z : Nat → Int} {n : Nat} {s : Int} (h0 : 0 ≤ s) (h2 : s ≤ 2) (h : ∀ j, j < n → z j ≤ 20) : lvF (fn (upF s z n)) n = lvF z n := by
  rw [Bool.eq_iff_iff]
  unfold lvF
  simp only [Bool.and_eq_true, allV_iff]
  refine and_congr Iff.rfl (forall_congr' fun j => forall_congr' fun hj => ?_)
  have := h j hj
  show (lvl (fn (upF s z n) j) = true) ↔ (lvl (z j) = true)
  rw [fn_upF s z n j hj]
  unfold lvl upV
  rw [decide_eq_true_iff, decide_eq_true_iff]
  by_cases c : 0 ≤ z j
  · rw [if_pos c]; constructor <;> intro d <;> omega
  · rw [if_neg c]
theorem ord0_congr {z y : Nat → Int} (k : Nat) (h : ∀ j, j < k → (0 ≤ z j ↔ 0 ≤ y j)) : ord0 z k = ord0 y k := by
  induction k with
  | zero => rfl
  | succ k ih =>
    simp only [ord0]
    rw [ih (fun j hj => h j (by omega))]
    by_cases c : 0 ≤ z k
    · rw [if_pos c, if_pos ((h k (by omega)).1 c)]
    · rw [if_neg c, if_neg (fun d => c ((h k (by omega)).2 d))]
theorem mostF_pos (z : Nat → Int) (k : Nat) : 0 ≤ mostF z k := by
  induction k with
  | zero => simp [mostF]
  | succ k ih => simp only [mostF]; split <;> omega
theorem mostF_up {z y : Nat → Int} {s : Int} (hs : 0 ≤ s) (k : Nat) (h : ∀ j, j < k → y j = upV s (z j)) :
    (ord0 z k = [] → mostF y k = 0 ∧ mostF z k = 0) ∧ (ord0 z k ≠ [] → mostF y k = mostF z k + s) := by
  induction k with
  | zero => exact ⟨fun _ => ⟨rfl, rfl⟩, fun c => absurd rfl c⟩
  | succ k ih =>
    obtain ⟨i1, i2⟩ := ih (fun j hj => h j (by omega))
    have e := h k (by omega)
    have p1 := mostF_pos z k
    have p2 := mostF_pos y k
    simp only [ord0, mostF]
    rw [e]
    by_cases c : 0 ≤ z k
    · rw [if_pos c]
      simp only [upV, if_pos c]
      refine ⟨fun d => by simp at d, fun _ => ?_⟩
      by_cases d : ord0 z k = []
      · obtain ⟨a, b⟩ := i1 d
        rw [a, b]; split <;> split <;> omega
      · have := i2 d
        rw [this]; split <;> split <;> omega
    · rw [if_neg c]
      simp only [upV, if_neg c]
      rw [if_neg (by omega), if_neg (by omega)]
      exact ⟨i1, i2⟩
theorem stA_congr {q r : Nat → Bool} (x : Nat) (h : ∀ y, y < x → q y = r y) : stA q x = stA r x := by
  induction x with
  | zero => rfl
  | succ x ih => simp only [stA]; rw [h x (by omega), ih (fun y hy => h y (by omega))]
theorem enA_congr {q r : Nat → Bool} (f x : Nat) (h : ∀ y, x ≤ y → y < x + f → q y = r y) : enA q f x = enA r f x := by
  induction f generalizing x with
  | zero => rfl
  | succ f ih => simp only [enA]; rw [h x (by omega) (by omega), ih (x + 1) (fun y a b => h y (by omega) (by omega))]
theorem turned_congr {q r : Nat → Bool} {l : List Int} (h : ∀ x, x < l.length → q x = r x) : turned q l = turned r l := by
  apply ext_fn (by rw [turned_len, turned_len])
  intro x hx
  rw [turned_len] at hx
  rw [fn_turned hx, fn_turned hx]
  unfold turnAt
  rw [h x hx, stA_congr x (fun y hy => h y (by omega)), enA_congr _ x (fun y a b => h y (by omega))]
def revL (o : List Int) : List Int := turned (fun _ => true) o
theorem revL_len (o : List Int) : (revL o).length = o.length := turned_len _ _
theorem fn_revL {o : List Int} {x : Nat} (h : x < o.length) : fn (revL o) x = fn o (o.length - 1 - x) := by
  unfold revL
  rw [fn_turned h, turn_in (Nat.zero_le _) h (Nat.le_refl _) (fun _ _ _ => rfl) (.inl rfl) (.inl rfl)]
  rw [Nat.zero_add]
theorem revL_twice (o : List Int) : revL (revL o) = o := by
  apply ext_fn (by rw [revL_len, revL_len])
  intro x hx
  rw [revL_len, revL_len] at hx
  rw [fn_revL (by rw [revL_len]; exact hx), revL_len, fn_revL (by omega), show o.length - 1 - (o.length - 1 - x) = x by omega]
/-- All levels that are seen, so many more. -/
def Up (s : Nat) (lv lv' : List Int) : Prop := ∀ p, p < lv.length → 0 ≤ fn lv p → fn lv' p = fn lv p + (s : Int)
theorem up_turn {s : Nat} {lv lv' o : List Int} (hu : Up s lv lv') (ho : Ord lv o) (m : Int) : turned (atLeast lv' o (m + (s : Int))) o = turned (atLeast lv o m) o := by
  apply turned_congr
  intro x hx
  obtain ⟨h1, h2, h3⟩ := ho.inn x hx
  unfold atLeast
  rw [hu _ (by omega) h3]
  by_cases c : m ≤ fn lv (fn o x).toNat
  · rw [decide_eq_true c, decide_eq_true (by omega)]
  · rw [decide_eq_false c, decide_eq_false (by omega)]
theorem up_turns {s : Nat} {lv lv' : List Int} (hu : Up s lv lv') (m : Nat) {o : List Int} (ho : Ord lv o) : ordN lv' (m + s) o = ordN lv' s (ordN lv m o) := by
  induction m generalizing o with
  | zero => rw [Nat.zero_add]; rfl
  | succ m ih =>
    rw [show m + 1 + s = (m + s) + 1 by omega]
    simp only [ordN]
    rw [show ((m + s : Nat) : Int) + 1 = ((m : Int) + 1) + (s : Int) by omega, up_turn hu ho]
    exact ih (ho.turned _)
theorem all_turn {s : Nat} {lv lv' o : List Int} (hu : Up s lv lv') (ho : Ord lv o) {m : Int} (hm : m ≤ (s : Int)) : turned (atLeast lv' o m) o = revL o := by
  apply turned_congr
  intro x hx
  obtain ⟨h1, h2, h3⟩ := ho.inn x hx
  unfold atLeast
  rw [hu _ (by omega) h3, decide_eq_true (by omega)]
theorem up_is (lv : List Int) (s : Nat) : Up s lv (upF s (fn lv) lv.length) := fun p hp h0 => by
  rw [fn_upF _ _ _ p hp]; simp [upV, h0]
theorem order_up (lv : List Int) (s : Nat) : orderL (upF s (fn lv) lv.length) = ordN (upF s (fn lv) lv.length) s (orderL lv) ∨ (orderL lv = [] ∧ orderL (upF s (fn lv) lv.length) = []) := by
  have hc : ord0 (fn (upF s (fn lv) lv.length)) lv.length = ord0 (fn lv) lv.length := ord0_congr _ (fun j hj => by
    rw [fn_upF _ _ _ j hj]; unfold upV; split <;> omega)
  obtain ⟨a, b⟩ := mostF_up (z := fn lv) (y := fn (upF s (fn lv) lv.length)) (s := (s : Int)) (by omega) lv.length (fun j hj => fn_upF _ _ _ j hj)
  by_cases e : ord0 (fn lv) lv.length = []
  · refine .inr ⟨List.eq_nil_of_length_eq_zero ?_, List.eq_nil_of_length_eq_zero ?_⟩
    · rw [orderL_len, e]; rfl
    · rw [orderL_len, upF_len, hc, e]; rfl
  · left
    have hp := mostF_pos (fn lv) lv.length
    unfold orderL
    rw [upF_len, hc, b e, show (mostF (fn lv) lv.length + (s : Int)).toNat = (mostF (fn lv) lv.length).toNat + s by omega]
    exact up_turns (up_is lv s) _ (ord0_ord lv)
theorem order_one (lv : List Int) : orderL (upF 1 (fn lv) lv.length) = revL (orderL lv) := by
  rcases order_up lv 1 with h | ⟨h1, h2⟩
  · rw [show ((1 : Nat) : Int) = 1 from rfl] at h
    rw [h]
    simp only [ordN]
    exact all_turn (up_is lv 1) (orderL_ord lv) (by omega)
  · rw [show ((1 : Nat) : Int) = 1 from rfl] at h2
    rw [h1, h2]; rfl
theorem order_two (lv : List Int) : orderL (upF 2 (fn lv) lv.length) = orderL lv := by
  rcases order_up lv 2 with h | ⟨h1, h2⟩
  · rw [show ((2 : Nat) : Int) = 2 from rfl] at h
    rw [h]
    simp only [ordN]
    have e1 : turned (atLeast (upF 2 (fn lv) lv.length) (orderL lv) (((1 : Nat) : Int) + 1)) (orderL lv) = revL (orderL lv) := all_turn (up_is lv 2) (orderL_ord lv) (by omega)
    rw [e1]
    have e2 : turned (atLeast (upF 2 (fn lv) lv.length) (revL (orderL lv)) (((0 : Nat) : Int) + 1)) (revL (orderL lv)) = revL (revL (orderL lv)) := all_turn (up_is lv 2) ((orderL_ord lv).turned _) (by omega)
    rw [e2, revL_twice]
  · rw [show ((2 : Nat) : Int) = 2 from rfl] at h2
    rw [h1, h2]
/-- What the law asks. -/
theorem up_facts {l : List Int} (h : ∀ j, j < l.length → fn l j ≤ 20) :
    ordR (upF 2 (fn l) l.length) = ordR l ∧ (ordR (upF 1 (fn l) l.length)).length = (ordR l).length ∧ ∀ x, x < (ordR l).length → fn (ordR (upF 1 (fn l) l.length)) ((ordR l).length - 1 - x) = fn (ordR l) x := by
  have e1 := lvF_up (z := fn l) (n := l.length) (s := 1) (by omega) (by omega) h
  have e2 := lvF_up (z := fn l) (n := l.length) (s := 2) (by omega) (by omega) h
  unfold ordR
  rw [upF_len, upF_len, e1, e2, order_one, order_two]
  split
  · refine ⟨rfl, revL_len _, fun x hx => ?_⟩
    rw [fn_revL (by omega), show (orderL l).length - 1 - ((orderL l).length - 1 - x) = x by omega]
  · exact ⟨rfl, rfl, fun x hx => by simp at hx⟩
end Go.Proofs.Ytpdngcjioaeckac
