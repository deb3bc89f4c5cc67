import Derived.Test.YtgjhhfmhaalcnaaRunRow
namespace Go.Proofs.Ytgjhhfmhaalcnaa
set_option linter.unusedSimpArgs false

/-- Where the first k runs end, if they go from 0 on. -/
def wE (z : Nat → Int) : Nat → Int
  | 0 => 0
  | k + 1 => z (k * 3 + 1)
/-- Do the first k runs go from 0 on, one behind the other, none empty? -/
def wB (z : Nat → Int) : Nat → Bool
  | 0 => true
  | k + 1 => wB z k && (z (k * 3) == wE z k && decide (wE z k < z (k * 3 + 1)))
theorem wB_le {z : Nat → Int} {n k : Nat} (h : wB z n = true) (hk : k ≤ n) : wB z k = true := by
  induction n with
  | zero => have : k = 0 := by omega
            subst this; rfl
  | succ n ih =>
    by_cases e : k = n + 1
    · subst e; exact h
    · simp only [wB, Bool.and_eq_true] at h; exact ih h.1 (by omega)
theorem wB_at {z : Nat → Int} {n k : Nat} (h : wB z n = true) (hk : k < n) : z (k * 3) = wE z k ∧ wE z k < z (k * 3 + 1) := by
  have := wB_le h (show k + 1 ≤ n by omega)
  simp only [wB, Bool.and_eq_true, beq_iff_eq, decide_eq_true_eq] at this
  exact this.2
theorem wB_next {z : Nat → Int} {k : Nat} (h : wB z k = true) (h1 : z (k * 3) = wE z k) (h2 : wE z k < z (k * 3 + 1)) : wB z (k + 1) = true := by
  simp [wB, h, h1, h2]
theorem wB_no {z : Nat → Int} {n k : Nat} (hk : k < n) (h : ¬ (z (k * 3) = wE z k ∧ wE z k < z (k * 3 + 1))) : wB z n = false := by
  cases e : wB z n
  · rfl
  · exact absurd (wB_at e hk) h
theorem wE_lt {z : Nat → Int} {n : Nat} (h : wB z n = true) {j k : Nat} (hj : j < k) (hk : k ≤ n) : wE z j < wE z k := by
  induction k with
  | zero => omega
  | succ k ih =>
    have := (wB_at h (show k < n by omega)).2
    by_cases e : j = k
    · subst e; exact this
    · have h2 := ih (by omega) (by omega); show wE z j < z (k * 3 + 1); omega
theorem wE_ge {z : Nat → Int} {n : Nat} (h : wB z n = true) {k : Nat} (hk : k ≤ n) : (k : Int) ≤ wE z k := by
  induction k with
  | zero => simp [wE]
  | succ k ih =>
    have h1 := (wB_at h (show k < n by omega)).2
    have h2 := ih (by omega)
    simp only [wE]; omega
/-- What endOfRuns answers. -/
def endI (z : Nat → Int) (n : Nat) : Int := if wB z n = true ∧ wE z n ≤ 80 then wE z n else 0
theorem endI_bad {z : Nat → Int} {n : Nat} (h : wB z n = false) : endI z n = 0 := by simp [endI, h]
theorem endI_long {z : Nat → Int} {n k : Nat} (hk : k ≤ n) (h : 80 < wE z k) : endI z n = 0 := by
  unfold endI
  rw [if_neg]
  rintro ⟨h1, h2⟩
  rcases Nat.lt_or_ge k n with q | q
  · have := wE_lt h1 q (Nat.le_refl _); omega
  · have : k = n := by omega
    subst this; omega
theorem endI_yes {z : Nat → Int} {n : Nat} (h : wB z n = true) (h2 : wE z n ≤ 80) : endI z n = wE z n := by simp [endI, h, h2]
/-- Two rows of runs that can be cut. -/
structure Two (z y : Nat → Int) (n m : Nat) : Prop where
  wz : wB z n = true
  wy : wB y m = true
  n0 : 0 < n
  m0 : 0 < m
  same : wE z n = wE y m
  le : wE z n ≤ 80
theorem Two.sizes {z y : Nat → Int} {n m : Nat} (h : Two z y n m) : n ≤ 80 ∧ m ≤ 80 := by
  have h1 := wE_ge h.wz (Nat.le_refl n)
  have h2 := wE_ge h.wy (Nat.le_refl m)
  have h3 := h.le
  have h4 := h.same
  omega
def twoB (z y : Nat → Int) (n m : Nat) : Bool := wB z n && wB y m && decide (0 < n) && decide (0 < m) && (wE z n == wE y m) && decide (wE z n ≤ 80)
theorem twoB_iff {z y : Nat → Int} {n m : Nat} : twoB z y n m = true ↔ Two z y n m := by
  simp only [twoB, Bool.and_eq_true, decide_eq_true_eq, beq_iff_eq]
  exact ⟨fun ⟨⟨⟨⟨⟨a, b⟩, c⟩, d⟩, e⟩, f⟩ => ⟨a, b, c, d, e, f⟩, fun h => ⟨⟨⟨⟨⟨h.wz, h.wy⟩, h.n0⟩, h.m0⟩, h.same⟩, h.le⟩⟩
theorem two_impl {z y : Nat → Int} {n m : Nat} : (endI z n ≠ 0 ∧ endI z n = endI y m) ↔ Two z y n m := by
  constructor
  · rintro ⟨h1, h2⟩
    have a : wB z n = true ∧ wE z n ≤ 80 := by
      rcases Classical.em (wB z n = true ∧ wE z n ≤ 80) with q | q
      · exact q
      · exact absurd (by unfold endI; rw [if_neg q]) h1
    have b : wB y m = true ∧ wE y m ≤ 80 := by
      rcases Classical.em (wB y m = true ∧ wE y m ≤ 80) with q | q
      · exact q
      · exact absurd (by rw [h2]; unfold endI; rw [if_neg q]) h1
    rw [endI_yes a.1 a.2] at h1 h2
    rw [endI_yes b.1 b.2] at h2
    refine ⟨a.1, b.1, ?_, ?_, h2, a.2⟩
    · rcases Nat.eq_zero_or_pos n with q | q
      · subst q; exact absurd rfl h1
      · exact q
    · rcases Nat.eq_zero_or_pos m with q | q
      · subst q; rw [h2] at h1; exact absurd rfl h1
      · exact q
  · intro h
    rw [endI_yes h.wz h.le, endI_yes h.wy (by have := h.le; have := h.same; omega)]
    exact ⟨by have := wE_ge h.wz (Nat.le_refl n); have := h.n0; omega, h.same⟩
def leastI (a b : Int) : Int := if a < b then a else b
theorem leastI_le {a b : Int} (h : a ≤ b) : leastI a b = a := by unfold leastI; split <;> omega
theorem leastI_gt {a b : Int} (h : b ≤ a) : leastI a b = b := by unfold leastI; split <;> omega
/-- The runs that are left, from f on: the run i of the first row, the run k of the other one. -/
def cutR (z y : Nat → Int) (n : Nat) : Nat → Int → Nat → Nat → List Int
  | 0, _, _, _ => []
  | d + 1, f, i, k => if i < n then [f, leastI (z (i * 3 + 1)) (y (k * 3 + 1)), z (i * 3 + 2)] ++ cutR z y n d (leastI (z (i * 3 + 1)) (y (k * 3 + 1))) (if z (i * 3 + 1) ≤ y (k * 3 + 1) then i + 1 else i) (if y (k * 3 + 1) ≤ z (i * 3 + 1) then k + 1 else k) else []
theorem cutR_end {z y : Nat → Int} {n d : Nat} {f : Int} {k : Nat} : cutR z y n d f n k = [] := by
  cases d with
  | zero => rfl
  | succ d => simp [cutR]
theorem cutR_len (z y : Nat → Int) (n d : Nat) (f : Int) (i k : Nat) : ∃ c, (cutR z y n d f i k).length = c * 3 ∧ c ≤ d := by
  induction d generalizing f i k with
  | zero => exact ⟨0, rfl, Nat.le_refl _⟩
  | succ d ih =>
    simp only [cutR]
    split
    · obtain ⟨c, h1, h2⟩ := ih (leastI (z (i * 3 + 1)) (y (k * 3 + 1))) (if z (i * 3 + 1) ≤ y (k * 3 + 1) then i + 1 else i) (if y (k * 3 + 1) ≤ z (i * 3 + 1) then k + 1 else k)
      exact ⟨c + 1, by simp only [List.length_append, List.length_cons, List.length_nil]; omega, by omega⟩
    · exact ⟨0, rfl, by omega⟩
/-- Where the cutting stands. -/
structure St (z y : Nat → Int) (n m : Nat) (f : Int) (i k : Nat) : Prop where
  i_lt : i < n
  k_lt : k < m
  zf : z (i * 3) ≤ f
  zt : f < z (i * 3 + 1)
  yf : y (k * 3) ≤ f
  yt : f < y (k * 3 + 1)
theorem St.start {z y : Nat → Int} {n m : Nat} (h : Two z y n m) : St z y n m 0 0 0 := by
  have a := wB_at h.wz h.n0
  have b := wB_at h.wy h.m0
  simp only [wE] at a b
  exact ⟨h.n0, h.m0, by omega, by omega, by omega, by omega⟩
theorem last_iff {z y : Nat → Int} {n m i k : Nat} (h : Two z y n m) (hi : i < n) (hk : k < m) (e : z (i * 3 + 1) ≤ y (k * 3 + 1)) : i + 1 < n ∨ (i + 1 = n ∧ k + 1 = m ∧ z (i * 3 + 1) = y (k * 3 + 1)) := by
  rcases Nat.lt_or_ge (i + 1) n with q | q
  · exact .inl q
  · have en : i + 1 = n := by omega
    have a : wE z (i + 1) = z (i * 3 + 1) := rfl
    have b : wE y (k + 1) = y (k * 3 + 1) := rfl
    have c := h.same
    rw [← en, a] at c
    rcases Nat.lt_or_ge (k + 1) m with q2 | q2
    · have := wE_lt h.wy q2 (Nat.le_refl _); omega
    · have em : k + 1 = m := by omega
      rw [← em, b] at c
      exact .inr ⟨en, em, c⟩
theorem last_iff2 {z y : Nat → Int} {n m i k : Nat} (h : Two z y n m) (hi : i < n) (hk : k < m) (e : y (k * 3 + 1) ≤ z (i * 3 + 1)) : k + 1 < m ∨ (i + 1 = n ∧ k + 1 = m ∧ z (i * 3 + 1) = y (k * 3 + 1)) := by
  rcases Nat.lt_or_ge (k + 1) m with q | q
  · exact .inl q
  · have em : k + 1 = m := by omega
    have a : wE z (i + 1) = z (i * 3 + 1) := rfl
    have b : wE y (k + 1) = y (k * 3 + 1) := rfl
    have c := h.same
    rw [← em, b] at c
    rcases Nat.lt_or_ge (i + 1) n with q2 | q2
    · have := wE_lt h.wz q2 (Nat.le_refl _); omega
    · have en : i + 1 = n := by omega
      rw [← en, a] at c
      exact .inr ⟨en, em, c⟩
/-- One step, where the first row's run ends first, or both do. -/
theorem St.fst {z y : Nat → Int} {n m i k : Nat} {f : Int} (h : Two z y n m) (s : St z y n m f i k) (e : z (i * 3 + 1) ≤ y (k * 3 + 1)) (hn : i + 1 < n) : St z y n m (z (i * 3 + 1)) (i + 1) (if y (k * 3 + 1) ≤ z (i * 3 + 1) then k + 1 else k) := by
  have a := wB_at h.wz hn
  have aw : wE z (i + 1) = z (i * 3 + 1) := rfl
  have b := wB_at h.wy s.k_lt
  by_cases q : y (k * 3 + 1) ≤ z (i * 3 + 1)
  · rw [if_pos q]
    have hm : k + 1 < m := by
      rcases last_iff2 h s.i_lt s.k_lt q with c | c
      · exact c
      · omega
    have c := wB_at h.wy hm
    have cw : wE y (k + 1) = y (k * 3 + 1) := rfl
    exact ⟨hn, hm, by omega, by omega, by omega, by omega⟩
  · rw [if_neg q]
    exact ⟨hn, s.k_lt, by omega, by omega, by have := s.yf; have := s.zt; omega, by omega⟩
/-- .. where the other row's run ends first. -/
theorem St.snd {z y : Nat → Int} {n m i k : Nat} {f : Int} (h : Two z y n m) (s : St z y n m f i k) (e : ¬ z (i * 3 + 1) ≤ y (k * 3 + 1)) : St z y n m (y (k * 3 + 1)) i (k + 1) := by
  have hm : k + 1 < m := by
    rcases last_iff2 h s.i_lt s.k_lt (by omega) with c | c
    · exact c
    · omega
  have c := wB_at h.wy hm
  have cw : wE y (k + 1) = y (k * 3 + 1) := rfl
  exact ⟨s.i_lt, hm, by have := s.zf; have := s.yt; omega, by omega, by omega, by omega⟩
theorem cutR_fst {z y : Nat → Int} {n i k d : Nat} {f : Int} (hi : i < n) (e : z (i * 3 + 1) ≤ y (k * 3 + 1)) : cutR z y n (d + 1) f i k = [f, z (i * 3 + 1), z (i * 3 + 2)] ++ cutR z y n d (z (i * 3 + 1)) (i + 1) (if y (k * 3 + 1) ≤ z (i * 3 + 1) then k + 1 else k) := by
  simp only [cutR]; rw [if_pos hi, leastI_le e, if_pos e]
theorem cutR_snd {z y : Nat → Int} {n i k d : Nat} {f : Int} (hi : i < n) (e : ¬ z (i * 3 + 1) ≤ y (k * 3 + 1)) : cutR z y n (d + 1) f i k = [f, y (k * 3 + 1), z (i * 3 + 2)] ++ cutR z y n d (y (k * 3 + 1)) i (k + 1) := by
  simp only [cutR]; rw [if_pos hi, leastI_gt (by omega), if_neg e, if_pos (by omega)]
/-- The runs, cut. -/
def cutL (a b : List Int) (n m : Nat) : List Int := if twoB (fn a) (fn b) n m = true then cutR (fn a) (fn b) n (n + m) 0 0 0 else []
theorem cutL_yes {a b : List Int} {n m : Nat} (h : Two (fn a) (fn b) n m) : cutL a b n m = cutR (fn a) (fn b) n (n + m) 0 0 0 := by unfold cutL; rw [if_pos (twoB_iff.2 h)]
theorem cutL_no {a b : List Int} {n m : Nat} (h : ¬ Two (fn a) (fn b) n m) : cutL a b n m = [] := by unfold cutL; rw [if_neg (fun q => h (twoB_iff.1 q))]
theorem cutL_len (a b : List Int) (n m : Nat) : ∃ c, (cutL a b n m).length = c * 3 ∧ c ≤ 160 := by
  rcases Classical.em (Two (fn a) (fn b) n m) with q | q
  · rw [cutL_yes q]
    obtain ⟨c, h1, h2⟩ := cutR_len (fn a) (fn b) n (n + m) 0 0 0
    have := q.sizes
    exact ⟨c, h1, by omega⟩
  · rw [cutL_no q]; exact ⟨0, rfl, by omega⟩
end Go.Proofs.Ytgjhhfmhaalcnaa
