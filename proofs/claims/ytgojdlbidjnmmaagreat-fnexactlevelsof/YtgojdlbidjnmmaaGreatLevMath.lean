import Derived.Test.YtgojdlbidjnmmaaGreatBrkM
import Derived.Test.YtgojdlbidjnmmaaGreatWeakMath
import Derived.Test.YtgojdlbidjnmmaaGreatMateD
import Derived.Test.YtgojdlbidjnmmaaGreatChainM2
namespace Go.Proofs.YtgojdlbidjnmmaaGreat
set_option linter.unusedSimpArgs false
set_option linter.unusedVariables false

/-- The level of the next letter ahead that has one. -/
def befL (lv : Nat → Int) (base : Int) : Nat → Int
  | 0 => base
  | k + 1 => if 0 ≤ lv k then lv k else befL lv base k
/-- .. and behind: of the last d letters of n. -/
def aftL (lv : Nat → Int) (n : Nat) (base : Int) : Nat → Int
  | 0 => base
  | d + 1 => if 0 ≤ lv (n - (d + 1)) then lv (n - (d + 1)) else aftL lv n base d
theorem aftL_step {lv : Nat → Int} {n : Nat} {base : Int} {k : Nat} (hk : k < n) (h : lv k < 0) : aftL lv n base (n - k) = aftL lv n base (n - (k + 1)) := by
  obtain ⟨m, hm⟩ : ∃ m, n - k = m + 1 := ⟨n - k - 1, by omega⟩
  have e : n - (m + 1) = k := by omega
  have e2 : n - (k + 1) = m := by omega
  rw [hm, e2]; simp only [aftL, e]; rw [if_neg (by omega)]
theorem aftL_hit {lv : Nat → Int} {n : Nat} {base : Int} {k : Nat} (hk : k < n) (h : 0 ≤ lv k) : aftL lv n base (n - k) = lv k := by
  obtain ⟨m, hm⟩ : ∃ m, n - k = m + 1 := ⟨n - k - 1, by omega⟩
  have e : n - (m + 1) = k := by omega
  rw [hm]; simp only [aftL, e]; rw [if_pos h]
theorem befL_bd {lv : Nat → Int} {base : Int} (hb : 0 ≤ base ∧ base ≤ 22) (hl : ∀ j, lv j ≤ 22) (k : Nat) : 0 ≤ befL lv base k ∧ befL lv base k ≤ 22 := by
  induction k with
  | zero => exact hb
  | succ k ih =>
    simp only [befL]; split
    · exact ⟨by assumption, hl k⟩
    · exact ih
theorem aftL_bd {lv : Nat → Int} {n : Nat} {base : Int} (hb : 0 ≤ base ∧ base ≤ 22) (hl : ∀ j, lv j ≤ 22) (d : Nat) : 0 ≤ aftL lv n base d ∧ aftL lv n base d ≤ 22 := by
  induction d with
  | zero => exact hb
  | succ d ih =>
    simp only [aftL]; split
    · exact ⟨by assumption, hl _⟩
    · exact ih
def maxI (a b : Int) : Int := if a < b then b else a
theorem ownOf_side (lv : Int) : sideB (ownOf lv) = true := by unfold ownOf sideB; split <;> simp
/-- The sides at the ends of a run. -/
def sidA (lv : Nat → Int) (base lvl : Int) (first : Nat) : Int := ownOf (maxI lvl (befL lv base first))
def behF (c lv : Nat → Int) (n : Nat) (mt : Nat → Nat) (base : Int) (last : Nat) : Int := if opensB (c last) = true ∧ n ≤ mt last then base else aftL lv n base (n - (last + 1))
def sidB (c lv : Nat → Int) (n : Nat) (mt : Nat → Nat) (base lvl : Int) (last : Nat) : Int := ownOf (maxI lvl (behF c lv n mt base last))

def anyTo (p : Nat → Bool) : Nat → Bool
  | 0 => false
  | k + 1 => anyTo p k || p k
/-- Whether the own side, and the other one, come within a pair. -/
def ownIn (x : Nat → Int) (o : Int) (a k : Nat) : Bool := anyTo (fun j => like (x (a + 1 + j)) == o) k
def othIn (x : Nat → Int) (o : Int) (a k : Nat) : Bool := anyTo (fun j => !(like (x (a + 1 + j)) == 0) && !(like (x (a + 1 + j)) == o)) k
def shA (x : Nat → Int) (bf : Int) : Nat → Int
  | 0 => bf
  | k + 1 => if like (x k) = 0 then shA x bf k else like (x k)
theorem like_cases (c : Int) : like c = 0 ∨ like c = 1 ∨ like c = 2 := by
  unfold like
  by_cases h1 : c = 1
  · simp [h1]
  · by_cases h2 : c = 2 ∨ c = 4 ∨ c = 7
    · simp [h1, h2]
    · simp [h1, h2]
theorem shA_side {x : Nat → Int} {bf : Int} (h : bf = 1 ∨ bf = 2) (k : Nat) : shA x bf k = 1 ∨ shA x bf k = 2 := by
  induction k with
  | zero => exact h
  | succ k ih =>
    simp only [shA]; split
    · exact ih
    · rcases like_cases (x k) with e | e | e
      · contradiction
      · exact .inl e
      · exact .inr e
/-- How many that stand on others follow. -/
def k9F (t : Nat → Int) (s : Nat) : Nat → Nat
  | 0 => 0
  | f + 1 => if t s = 9 then k9F t (s + 1) f + 1 else 0
theorem k9F_is {t : Nat → Int} : ∀ (f s m : Nat), m ≤ f → (∀ i, i < m → t (s + i) = 9) → (m = f ∨ t (s + m) ≠ 9) → k9F t s f = m
  | 0, s, m, h1, _, _ => by have : m = 0 := by omega
                            subst this; rfl
  | f + 1, s, m, h1, h2, h3 => by
    simp only [k9F]
    cases m with
    | zero =>
      rcases h3 with h3 | h3
      · omega
      · rw [if_neg (by simpa using h3)]
    | succ m =>
      rw [if_pos (by have := h2 0 (by omega); simpa using this)]
      have := k9F_is f (s + 1) m (by omega) (fun i hi => by have := h2 (i + 1) (by omega); rwa [show s + 1 + i = s + (i + 1) by omega]) (by rcases h3 with h3 | h3; exact .inl (by omega); exact .inr (by rwa [show s + 1 + m = s + (m + 1) by omega]))
      rw [this]
/-- A list in which some side by side are set. -/
def setSeg (x : List Int) (s : Int) (a : Nat) : Nat → List Int
  | 0 => x
  | d + 1 => (setSeg x s a d).set (a + d) s
theorem setSeg_len (x : List Int) (s : Int) (a d : Nat) : (setSeg x s a d).length = x.length := by
  induction d with
  | zero => rfl
  | succ d ih => simp only [setSeg, List.length_set, ih]
theorem fn_setSeg {x : List Int} {s : Int} {a d j : Nat} (hj : j < x.length) : fn (setSeg x s a d) j = if a ≤ j ∧ j < a + d then s else fn x j := by
  induction d with
  | zero => rw [if_neg (by omega)]; rfl
  | succ d ih =>
    simp only [setSeg]
    by_cases e : a + d = j
    · subst e; rw [fn_set_same (by rw [setSeg_len]; exact hj), if_pos (by omega)]
    · rw [fn_set_other e, ih]
      by_cases q : a ≤ j ∧ j < a + d
      · rw [if_pos q, if_pos (by omega)]
      · rw [if_neg q, if_neg (by omega)]
def giveL (t : Nat → Int) (n : Nat) (s : Int) (x : List Int) (a : Nat) : List Int := setSeg x s a (1 + k9F t (a + 1) (n - (a + 1)))
theorem giveL_len (t : Nat → Int) (n : Nat) (s : Int) (x : List Int) (a : Nat) : (giveL t n s x a).length = x.length := setSeg_len _ _ _ _
/-- The side that a pair gets. -/
def sidP (x : Nat → Int) (o bf : Int) (a : Nat) (own : Bool) : Int := if own = true then o else shA x bf a
def resP (t : Nat → Int) (n : Nat) (o bf : Int) (x : List Int) (p : Nat × Nat) : List Int :=
  if ownIn (fn x) o p.1 (p.2 - (p.1 + 1)) = false ∧ othIn (fn x) o p.1 (p.2 - (p.1 + 1)) = false then x
  else giveL t n (sidP (fn x) o bf p.1 (ownIn (fn x) o p.1 (p.2 - (p.1 + 1)))) (giveL t n (sidP (fn x) o bf p.1 (ownIn (fn x) o p.1 (p.2 - (p.1 + 1)))) x p.1) p.2
theorem resP_len (t : Nat → Int) (n : Nat) (o bf : Int) (x : List Int) (p : Nat × Nat) : (resP t n o bf x p).length = x.length := by
  unfold resP; split
  · rfl
  · rw [giveL_len, giveL_len]
def ClsL (x : List Int) : Prop := ∀ j, j < x.length → 1 ≤ fn x j ∧ fn x j ≤ 22
theorem giveL_cls {t : Nat → Int} {n : Nat} {s : Int} {x : List Int} {a : Nat} (h : ClsL x) (hs : s = 1 ∨ s = 2) : ClsL (giveL t n s x a) := by
  intro j hj
  rw [giveL_len] at hj
  unfold giveL
  rw [fn_setSeg hj]
  split
  · omega
  · exact h j hj
theorem sidP_side {x : Nat → Int} {o bf : Int} {a : Nat} {own : Bool} (ho : o = 1 ∨ o = 2) (hb : bf = 1 ∨ bf = 2) : sidP x o bf a own = 1 ∨ sidP x o bf a own = 2 := by
  unfold sidP; split
  · exact ho
  · exact shA_side hb a
theorem resP_cls {t : Nat → Int} {n : Nat} {o bf : Int} {x : List Int} {p : Nat × Nat} (h : ClsL x) (ho : o = 1 ∨ o = 2) (hb : bf = 1 ∨ bf = 2) : ClsL (resP t n o bf x p) := by
  unfold resP; split
  · exact h
  · exact giveL_cls (giveL_cls h (sidP_side ho hb)) (sidP_side ho hb)
def resTo (t : Nat → Int) (n : Nat) (o bf : Int) (x : List Int) (P : List (Nat × Nat)) : List Int := P.foldl (resP t n o bf) x
theorem resTo_snoc (t : Nat → Int) (n : Nat) (o bf : Int) (x : List Int) (P : List (Nat × Nat)) (p : Nat × Nat) : resTo t n o bf x (P ++ [p]) = resP t n o bf (resTo t n o bf x P) p := by unfold resTo; rw [List.foldl_append]; rfl
theorem resTo_take {t : Nat → Int} {n : Nat} {o bf : Int} {x : List Int} {P : List (Nat × Nat)} {k : Nat} (h : k < P.length) : resTo t n o bf x (P.take (k + 1)) = resP t n o bf (resTo t n o bf x (P.take k)) P[k] := by
  rw [List.take_add_one, List.getElem?_eq_getElem h]; exact resTo_snoc _ _ _ _ _ _ _
theorem resTo_len (t : Nat → Int) (n : Nat) (o bf : Int) (x : List Int) (P : List (Nat × Nat)) : (resTo t n o bf x P).length = x.length := by
  induction P generalizing x with
  | nil => rfl
  | cons p r ih => show (resTo t n o bf (resP t n o bf x p) r).length = _; rw [ih, resP_len]
theorem resTo_cls {t : Nat → Int} {n : Nat} {o bf : Int} {x : List Int} (P : List (Nat × Nat)) (h : ClsL x) (ho : o = 1 ∨ o = 2) (hb : bf = 1 ∨ bf = 2) : ClsL (resTo t n o bf x P) := by
  induction P generalizing x with
  | nil => exact h
  | cons p r ih => exact ih (resP_cls h ho hb)

/-- The letters, and the classes, of a run. -/
def pickL (r : List Nat) (list : List Int) : List Int := r.map (fn list)
theorem pickL_len (r : List Nat) (list : List Int) : (pickL r list).length = r.length := by simp [pickL]
theorem fn_pickL {r : List Nat} {list : List Int} {j : Nat} (h : j < r.length) : fn (pickL r list) j = fn list (r[j]) := by simp [fn, pickL, h]
/-- The classes of a run behind all rules. -/
def resF (l cls : List Int) (bf af lvl : Int) (r : List Nat) : List Int :=
  plainL (resTo (fn (pickL r cls)) r.length (ownOf lvl) bf (weakL (pickL r cls) bf) (srtB (stB (fn (pickL r l)) (fn (weakL (pickL r cls) bf)) mate r.length).2)) bf af lvl
theorem resF_len (l cls : List Int) (bf af lvl : Int) (r : List Nat) : (resF l cls bf af lvl r).length = r.length := by
  unfold resF; rw [plainL_len, resTo_len, weakL_len, pickL_len]
def moreF (lvl c : Int) : Int := if c = ownOf lvl then 0 else if lvl % 2 = 0 ∧ c ≠ 2 then 2 else 1
/-- Levels of a run put in. -/
def putTo (Z : List Int) (r : List Nat) (lvl : Int) (x : Nat → Int) : Nat → List Int
  | 0 => Z
  | k + 1 => (putTo Z r lvl x k).set (r.getD k 0) (lvl + moreF lvl (x k))
theorem putTo_len (Z : List Int) (r : List Nat) (lvl : Int) (x : Nat → Int) (k : Nat) : (putTo Z r lvl x k).length = Z.length := by
  induction k with
  | zero => rfl
  | succ k ih => simp only [putTo, List.length_set, ih]
theorem putTo_other {Z : List Int} {r : List Nat} {lvl : Int} {x : Nat → Int} {k y : Nat} (h : ∀ i, i < k → r.getD i 0 ≠ y) : fn (putTo Z r lvl x k) y = fn Z y := by
  induction k with
  | zero => rfl
  | succ k ih => simp only [putTo]; rw [fn_set_other (h k (by omega)), ih (fun i hi => h i (by omega))]
/-- All of a run's: its first place, its last, its level. -/
def runL (c : Nat → Int) (l L C : List Int) (n : Nat) (mt : Nat → Nat) (base : Int) (r : List Nat) : List Int :=
  resF l C (sidA (fn L) base (fn L (r.headD 0)) (r.headD 0)) (sidB c (fn L) n mt base (fn L (r.headD 0)) (r.getLastD 0)) (fn L (r.headD 0)) r
def lvsTo (c : Nat → Int) (l L C : List Int) (n : Nat) (mt : Nat → Nat) (base : Int) (R : List (List Nat)) : Nat → List Int
  | 0 => L
  | q + 1 => putTo (lvsTo c l L C n mt base R q) (R.getD q []) (fn L ((R.getD q []).headD 0)) (fn (runL c l L C n mt base (R.getD q []))) (R.getD q []).length
theorem lvsTo_len (c : Nat → Int) (l L C : List Int) (n : Nat) (mt : Nat → Nat) (base : Int) (R : List (List Nat)) (q : Nat) : (lvsTo c l L C n mt base R q).length = L.length := by
  induction q with
  | zero => rfl
  | succ q ih => simp only [lvsTo, putTo_len, ih]
theorem lvsTo_other {c : Nat → Int} {l L C : List Int} {n : Nat} {mt : Nat → Nat} {base : Int} {R : List (List Nat)} {q y : Nat} (hq : q ≤ R.length) (h : y ∉ (R.take q).flatten) : fn (lvsTo c l L C n mt base R q) y = fn L y := by
  induction q with
  | zero => rfl
  | succ q ih =>
    have hqR : q < R.length := by omega
    have htk : R.take (q + 1) = R.take q ++ [R[q]] := by rw [List.take_add_one, List.getElem?_eq_getElem hqR]; rfl
    rw [htk, List.flatten_append, List.mem_append] at h
    simp only [List.flatten_cons, List.flatten_nil, List.append_nil] at h
    simp only [lvsTo]
    have hg : R.getD q [] = R[q] := by simp [hqR]
    rw [putTo_other, ih (by omega) (fun e => h (.inl e))]
    intro i hi e
    rw [hg] at hi e
    apply h; right
    rw [← e]; simp [hi]
end Go.Proofs.YtgojdlbidjnmmaaGreat
