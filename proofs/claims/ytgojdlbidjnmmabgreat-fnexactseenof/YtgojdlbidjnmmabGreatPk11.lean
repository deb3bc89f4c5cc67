import Derived.Test.YtgojdlbidjnmmabGreatPk10
import Derived.Test.YtgojdlbidjnmmabGreatPk5
import Derived.Test.YtgojdlbidjnmmabGreatPk6
import Derived.Test.YtgojdlbidjnmmabGreatPk1
import Derived.Test.YtgojdlbidjnmmabGreatPk4
namespace Go.Proofs.YtgojdlbidjnmmabGreat
set_option linter.unusedSimpArgs false
set_option linter.unusedVariables false

/-- The level of the next letter ahead that has one. -/
def befL (lv : Nat → Int) (base : Int) : Nat → Int
  | 0 => base
  | k + 1 => if 0 ≤ lv k then lv k else befL lv base k
/-- .. and behind: of the last d letters of n. -/
def aftL (lv : Nat → Int) (n : Nat) (base : Int) : Nat → Int
  | 0 => base
  | d + 1 => if 0 ≤ lv (n - (d + 1)) then lv (n - (d + 1)) else aftL lv n base d
theorem aftL_step {lv : Nat → Int} {n : Nat} {base : Int} {k : Nat} (hk : k < n) (h : lv k < 0) : aftL lv n base (n - k) = aftL lv n base (n - (k + 1)) := by
  obtain ⟨m, hm⟩ : ∃ m, n - k = m + 1 := ⟨n - k - 1, by omega⟩
  have e : n - (m + 1) = k := by omega
  have e2 : n - (k + 1) = m := by omega
  rw [hm, e2]; simp only [aftL, e]; rw [if_neg (by omega)]
theorem aftL_hit {lv : Nat → Int} {n : Nat} {base : Int} {k : Nat} (hk : k < n) (h : 0 ≤ lv k) : aftL lv n base (n - k) = lv k := by
  obtain ⟨m, hm⟩ : ∃ m, n - k = m + 1 := ⟨n - k - 1, by omega⟩
  have e : n - (m + 1) = k := by omega
  rw [hm]; simp only [aftL, e]; rw [if_pos h]
theorem befL_bd {lv : Nat → Int} {base : Int} (hb : 0 ≤ base ∧ base ≤ 22) (hl : ∀ j, lv j ≤ 22) (k : Nat) : 0 ≤ befL lv base k ∧ befL lv base k ≤ 22 := by
  induction k with
  | zero => exact hb
  | succ k ih =>
    simp only [befL]; split
    · exact ⟨by assumption, hl k⟩
    · exact ih
theorem aftL_bd {lv : Nat → Int} {n : Nat} {base : Int} (hb : 0 ≤ base ∧ base ≤ 22) (hl : ∀ j, lv j ≤ 22) (d : Nat) : 0 ≤ aftL lv n base d ∧ aftL lv n base d ≤ 22 := by
  induction d with
  | zero => exact hb
  | succ d ih =>
    simp only [aftL]; split
    · exact ⟨by assumption, hl _⟩
    · exact ih
def maxI (a b : Int) : Int := if a < b then b else a
theorem ownOf_side (lv : Int) : sideB (ownOf lv) = true := by unfold ownOf sideB; split <;> simp
/-- The sides at the ends of a run. -/
def sidA (lv : Nat → Int) (base lvl : Int) (first : Nat) : Int := ownOf (maxI lvl (befL lv base first))
def behF (c lv : Nat → Int) (n : Nat) (mt : Nat → Nat) (base : Int) (last : Nat) : Int := if opensB (c last) = true ∧ n ≤ mt last then base else aftL lv n base (n - (last + 1))
def sidB (c lv : Nat → Int) (n : Nat) (mt : Nat → Nat) (base lvl : Int) (last : Nat) : Int := ownOf (maxI lvl (behF c lv n mt base last))

def anyTo (p : Nat → Bool) : Nat → Bool
  | 0 => false
  | k + 1 => anyTo p k || p k
/-- Whether the own side, and the other one, come within a pair. -/
def ownIn (x : Nat → Int) (o : Int) (a k : Nat) : Bool := anyTo (fun j => like (x (a + 1 + j)) == o) k
def othIn (x : Nat → Int) (o : Int) (a k : Nat) : Bool := anyTo (fun j => !(like (x (a + 1 + j)) == 0) && !(like (x (a + 1 + j)) == o)) k
def shA (x : Nat → Int) (bf : Int) : Nat → Int
  | 0 => bf
  | k + 1 => if like (x k) = 0 then shA x bf k else like (x k)
theorem like_cases (c : Int) : like c = 0 ∨ like c = 1 ∨ like c = 2 := by
  unfold like
  by_cases h1 : c = 1
  · simp [h1]
  · by_cases h2 : c = 2 ∨ c = 4 ∨ c = 7
    · simp [h1, h2]
    · simp [h1, h2]
theorem shA_side {x : Nat → Int} {bf : Int} (h : bf = 1 ∨ bf = 2) (k : Nat) : shA x bf k = 1 ∨ shA x bf k = 2 := by
  induction k with
  | zero => exact h
  | succ k ih =>
    simp only [shA]; split
    · exact ih
    · rcases like_cases (x k) with e | e | e
      · contradiction
      · exact .inl e
      · exact .inr e
/-- How many that stand on others follow. -/
def k9F (t : Nat → Int) (s : Nat) : Nat → Nat
  | 0 => 0
  | f + 1 => if t s = 9 then k9F t (s + 1) f + 1 else 0
theorem k9F_is {t : Nat → Int} : ∀ (f s m : Nat), m ≤ f → (∀ i, i < m → t (s + i) = 9) → (m = f ∨ t (s + m) ≠ 9) → k9F t s f = m
  | 0, s, m, h1, _, _ => by have : m = 0 := by omega
                            subst this; rfl
  | f + 1, s, m, h1, h2, h3 => by
    simp only [k9F]
    cases m with
    | zero =>
      rcases h3 with h3 | h3
      · omega
      · rw [if_neg (by simpa using h3)]
    | succ m =>
      rw [if_pos (by have := h2 0 (by omega); simpa using this)]
      have := k9F_is f (s + 1) m (by omega) (fun i hi => by have := h2 (i + 1) (by omega); rwa [show s + 1 + i = s + (i + 1) by omega]) (by rcases h3 with h3 | h3; exact .inl (by omega); exact .inr (by rwa [show s + 1 + m = s + (m + 1) by omega]))
      rw [this]
/-- A list in which some side by side are set. -/
def setSeg (x : List Int) (s : Int) (a : Nat) : Nat → List Int
  | 0 => x
  | d + 1 => (setSeg x s a d).set (a + d) s
theorem setSeg_len (x : List Int) (s : Int) (a d : Nat) : (setSeg x s a d).length = x.length := by
  induction d with
  | zero => rfl
  | succ d ih => simp only [setSeg, List.length_set, ih]
theorem fn_setSeg {x : List Int} {s : Int} {a d j : Nat} (hj : j < x.length) : fn (setSeg x s a d) j = if a ≤ j ∧ j < a + d then s else fn x j := by
  induction d with
  | zero => rw [if_neg (by omega)]; rfl
  | succ d ih =>
    simp only [setSeg]
    by_cases e : a + d = j
    · subst e; rw [fn_set_same (by rw [setSeg_len]; exact hj), if_pos (by omega)]
    · rw [fn_set_other e, ih]
      by_cases q : a ≤ j ∧ j < a + d
      · rw [if_pos q, if_pos (by omega)]
      · rw [if_neg q, if_neg (by omega)]
def giveL (t : Nat → Int) (n : Nat) (s : Int) (x : List Int) (a : Nat) : List Int := setSeg x s a (1 + k9F t (a + 1) (n - (a + 1)))
theorem giveL_len (t : Nat → Int) (n : Nat) (s : Int) (x : List Int) (a : Nat) : (giveL t n s x a).length = x.length := setSeg_len _ _ _ _
/-- The side that a pair gets. -/
def sidP (x : Nat → Int) (o bf : Int) (a : Nat) (own : Bool) : Int := if own = true then o else shA x bf a
def resP (t : Nat → Int) (n : Nat) (o bf : Int) (x : List Int) (p : Nat × Nat) : List Int :=
  if ownIn (fn x) o p.1 (p.2 - (p.1 + 1)) = false ∧ othIn (fn x) o p.1 (p.2 - (p.1 + 1)) = false then x
  else giveL t n (sidP (fn x) o bf p.1 (ownIn (fn x) o p.1 (p.2 - (p.1 + 1)))) (giveL t n (sidP (fn x) o bf p.1 (ownIn (fn x) o p.1 (p.2 - (p.1 + 1)))) x p.1) p.2
theorem resP_len (t : Nat → Int) (n : Nat) (o bf : Int) (x : List Int) (p : Nat × Nat) : (resP t n o bf x p).length = x.length := by
  unfold resP; split
  · rfl
  · rw [giveL_len, giveL_len]
def ClsL (x : List Int) : Prop := ∀ j, j < x.length → 1 ≤ fn x j ∧ fn x j ≤ 22
theorem giveL_cls {t : Nat → Int} {n : Nat} {s : Int} {x : List Int} {a : Nat} (h : ClsL x) (hs : s = 1 ∨ s = 2) : ClsL (giveL t n s x a) := by
  intro j hj
  rw [giveL_len] at hj
  unfold giveL
  rw [fn_setSeg hj]
  split
  · omega
  · exact h j hj
theorem sidP_side {x : Nat → Int} {o bf : Int} {a : Nat} {own : Bool} (ho : o = 1 ∨ o = 2) (hb : bf = 1 ∨ bf = 2) : sidP x o bf a own = 1 ∨ sidP x o bf a own = 2 := by
  unfold sidP; split
  · exact ho
  · exact shA_side hb a
theorem resP_cls {t : Nat → Int} {n : Nat} {o bf : Int} {x : List Int} {p : Nat × Nat} (h : ClsL x) (ho : o = 1 ∨ o = 2) (hb : bf = 1 ∨ bf = 2) : ClsL (resP t n o bf x p) := by
  unfold resP; split
  · exact h
  · exact giveL_cls (giveL_cls h (sidP_side ho hb)) (sidP_side ho hb)
def resTo (t : Nat → Int) (n : Nat) (o bf : Int) (x : List Int) (P : List (Nat × Nat)) : List Int := P.foldl (resP t n o bf) x
theorem resTo_snoc (t : Nat → Int) (n : Nat) (o bf : Int) (x : List Int) (P : List (Nat × Nat)) (p : Nat × Nat) : resTo t n o bf x (P ++ [p]) = resP t n o bf (resTo t n o bf x P) p := by unfold resTo; rw [List.foldl_append]; rfl
theorem resTo_take {t : Nat → Int} {n : Nat} {o bf : Int} {x : List Int} {P : List (Nat × Nat)} {k : Nat} (h : k < P.length) : resTo t n o bf x (P.take (k + 1)) = resP t n o bf (resTo t n o bf x (P.take k)) P[k] := by
  rw [List.take_add_one, List.getElem?_eq_getElem h]; exact resTo_snoc _ _ _ _ _ _ _
theorem resTo_len (t : Nat → Int) (n : Nat) (o bf : Int) (x : List Int) (P : List (Nat × Nat)) : (resTo t n o bf x P).length = x.length := by
  induction P generalizing x with
  | nil => rfl
  | cons p r ih => show (resTo t n o bf (resP t n o bf x p) r).length = _; rw [ih, resP_len]
theorem resTo_cls {t : Nat → Int} {n : Nat} {o bf : Int} {x : List Int} (P : List (Nat × Nat)) (h : ClsL x) (ho : o = 1 ∨ o = 2) (hb : bf = 1 ∨ bf = 2) : ClsL (resTo t n o bf x P) := by
  induction P generalizing x with
  | nil => exact h
  | cons p r ih => exact ih (resP_cls h ho hb)

/-- The letters, and the classes, of a run. -/
def pickL (r : List Nat) (list : List Int) : List Int := r.map (fn list)
theorem pickL_len (r : List Nat) (list : List Int) : (pickL r list).length = r.length := by simp [pickL]
theorem fn_pickL {r : List Nat} {list : List Int} {j : Nat} (h : j < r.length) : fn (pickL r list) j = fn list (r[j]) := by simp [fn, pickL, h]
/-- The classes of a run behind all rules. -/
def resF (l cls : List Int) (bf af lvl : Int) (r : List Nat) : List Int :=
  plainL (resTo (fn (pickL r cls)) r.length (ownOf lvl) bf (weakL (pickL r cls) bf) (srtB (stB (fn (pickL r l)) (fn (weakL (pickL r cls) bf)) mate r.length).2)) bf af lvl
theorem resF_len (l cls : List Int) (bf af lvl : Int) (r : List Nat) : (resF l cls bf af lvl r).length = r.length := by
  unfold resF; rw [plainL_len, resTo_len, weakL_len, pickL_len]
def moreF (lvl c : Int) : Int := if c = ownOf lvl then 0 else if lvl % 2 = 0 ∧ c ≠ 2 then 2 else 1
/-- Levels of a run put in. -/
def putTo (Z : List Int) (r : List Nat) (lvl : Int) (x : Nat → Int) : Nat → List Int
  | 0 => Z
  | k + 1 => (putTo Z r lvl x k).set (r.getD k 0) (lvl + moreF lvl (x k))
theorem putTo_len (Z : List Int) (r : List Nat) (lvl : Int) (x : Nat → Int) (k : Nat) : (putTo Z r lvl x k).length = Z.length := by
  induction k with
  | zero => rfl
  | succ k ih => simp only [putTo, List.length_set, ih]
theorem putTo_other {Z : List Int} {r : List Nat} {lvl : Int} {x : Nat → Int} {k y : Nat} (h : ∀ i, i < k → r.getD i 0 ≠ y) : fn (putTo Z r lvl x k) y = fn Z y := by
  induction k with
  | zero => rfl
  | succ k ih => simp only [putTo]; rw [fn_set_other (h k (by omega)), ih (fun i hi => h i (by omega))]
/-- All of a run's: its first place, its last, its level. -/
def runL (c : Nat → Int) (l L C : List Int) (n : Nat) (mt : Nat → Nat) (base : Int) (r : List Nat) : List Int :=
  resF l C (sidA (fn L) base (fn L (r.headD 0)) (r.headD 0)) (sidB c (fn L) n mt base (fn L (r.headD 0)) (r.getLastD 0)) (fn L (r.headD 0)) r
def lvsTo (c : Nat → Int) (l L C : List Int) (n : Nat) (mt : Nat → Nat) (base : Int) (R : List (List Nat)) : Nat → List Int
  | 0 => L
  | q + 1 => putTo (lvsTo c l L C n mt base R q) (R.getD q []) (fn L ((R.getD q []).headD 0)) (fn (runL c l L C n mt base (R.getD q []))) (R.getD q []).length
theorem lvsTo_len (c : Nat → Int) (l L C : List Int) (n : Nat) (mt : Nat → Nat) (base : Int) (R : List (List Nat)) (q : Nat) : (lvsTo c l L C n mt base R q).length = L.length := by
  induction q with
  | zero => rfl
  | succ q ih => simp only [lvsTo, putTo_len, ih]
theorem lvsTo_other {c : Nat → Int} {l L C : List Int} {n : Nat} {mt : Nat → Nat} {base : Int} {R : List (List Nat)} {q y : Nat} (hq : q ≤ R.length) (h : y ∉ (R.take q).flatten) : fn (lvsTo c l L C n mt base R q) y = fn L y := by
  induction q with
  | zero => rfl
  | succ q ih =>
    have hqR : q < R.length := by omega
    have htk : R.take (q + 1) = R.take q ++ [R[q]] := by rw [List.take_add_one, List.getElem?_eq_getElem hqR]; rfl
    rw [htk, List.flatten_append, List.mem_append] at h
    simp only [List.flatten_cons, List.flatten_nil, List.append_nil] at h
    simp only [lvsTo]
    have hg : R.getD q [] = R[q] := by simp [hqR]
    rw [putTo_other, ih (by omega) (fun e => h (.inl e))]
    intro i hi e
    rw [hg] at hi e
    apply h; right
    rw [← e]; simp [hi]
end Go.Proofs.YtgojdlbidjnmmabGreat
namespace Go.Proofs.YtgojdlbidjnmmabGreat
open Go.ChangeShapes Go.WideShapes Go.ChangeAt Go.RowKit
set_option linter.unusedSimpArgs false

set_option maxHeartbeats 1000000 in
theorem implPlain? (c : Int) (w : World) : Calls Tryz.prog 114 #[.int .i64 c] w fun e w' => e = .returned (.bool (noP c)) ∧ w' = w := by
  go_enter Tryz.func114, Tryz.ntmps114
  go_wp2
  all_goals (go_ret; refine ⟨retBool ?_, rfl⟩)
  all_goals (try simp only [beq_iff_eq, beq_eq_false_iff_ne, ne_eq, decide_eq_true_eq, decide_eq_false_iff_not] at *)
  all_goals (first | (unfold noP; simp; omega) | (unfold noP; rw [Bool.eq_iff_iff]; simp only [decide_eq_true_eq, Bool.or_eq_true, Bool.and_eq_true, beq_iff_eq]; try omega))
set_option maxHeartbeats 1000000 in
theorem implSide? (c : Int) (w : World) : Calls Tryz.prog 101 #[.int .i64 c] w fun e w' => e = .returned (.bool (sideB c)) ∧ w' = w := by
  go_enter Tryz.func101, Tryz.ntmps101
  go_wp2
  all_goals (go_ret; refine ⟨retBool ?_, rfl⟩)
  all_goals (try simp only [beq_iff_eq, beq_eq_false_iff_ne, ne_eq, decide_eq_true_eq, decide_eq_false_iff_not] at *)
  all_goals (first | (unfold sideB; simp; omega) | (unfold sideB; rw [Bool.eq_iff_iff]; simp only [decide_eq_true_eq, Bool.or_eq_true, Bool.and_eq_true, beq_iff_eq]; try omega))
set_option maxHeartbeats 1000000 in
theorem implLike (c : Int) (w : World) : Calls Tryz.prog 111 #[.int .i64 c] w fun e w' => e = .returned (.int .i64 (like c)) ∧ w' = w := by
  go_enter Tryz.func111, Tryz.ntmps111
  go_wp2
  all_goals (go_ret; refine ⟨retInt ?_, rfl⟩)
  all_goals (try simp only [beq_iff_eq, beq_eq_false_iff_ne, ne_eq, decide_eq_true_eq, decide_eq_false_iff_not] at *)
  all_goals (unfold like)
  all_goals (repeat (first | rfl | rw [if_pos (by omega)] | rw [if_neg (by omega)]))
set_option maxHeartbeats 1000000 in
theorem implOwn (c : Int) (w : World) (h0 : 0 ≤ c) : Calls Tryz.prog 81 #[.int .i64 c] w fun e w' => e = .returned (.int .i64 (ownOf c)) ∧ w' = w := by
  go_enter Tryz.func81, Tryz.ntmps81
  go_wp2
  all_goals (go_ret; refine ⟨retInt ?_, rfl⟩)
  all_goals (try simp only [beq_iff_eq, beq_eq_false_iff_ne, ne_eq, decide_eq_true_eq, decide_eq_false_iff_not] at *)
  all_goals (unfold ownOf)
  all_goals (repeat (first | rfl | rw [if_pos (by omega)] | rw [if_neg (by omega)]))
set_option maxHeartbeats 1000000 in
theorem implAmong (a b lv : Int) (w : World) (h0 : 0 ≤ lv) (r : Int) (hr : Hid (among a b lv = r)) : Calls Tryz.prog 116 #[.int .i64 a, .int .i64 b, .int .i64 lv] w fun e w' => e = .returned (.int .i64 r) ∧ w' = w := by
  obtain ⟨x, hx⟩ : ∃ x, like a = x := ⟨_, rfl⟩
  obtain ⟨y, hy⟩ : ∃ y, like b = y := ⟨_, rfl⟩
  have HX : Hid _ := hx
  have HY : Hid _ := hy
  clear hx hy
  by_cases q1 : x = 0
  · have HR : Hid (ownOf lv = r) := by show _ = _; rw [← hr.out, among, HX.out, if_pos (.inl q1)]
    subst q1
    go_enter Tryz.func116, Tryz.ntmps116
    go_wp2_with (first | (go_at_call 111; refine (implLike _ _).mono ?_; rintro e w' ⟨rfl, rfl⟩; rw [HX.out]) | (go_at_call 81; refine (implOwn _ _ h0).mono ?_; rintro e w' ⟨rfl, rfl⟩; rw [HR.out]))
    go_ret
    exact ⟨rfl, rfl⟩
  · have g1 : (x == 0) = false := by simpa using q1
    by_cases q2 : x = y
    · have HR : Hid (x = r) := by show _ = _; rw [← hr.out, among, HX.out, HY.out, if_neg (by omega)]
      have HQ : Hid _ := q2
      have g2 : (x != y) = false := by simpa using q2
      clear q2
      go_enter Tryz.func116, Tryz.ntmps116
      go_wp2_with fail
      refine (implLike _ _).mono ?_
      rintro e w' ⟨rfl, rfl⟩
      rw [HX.out]
      go_wp2_with fail
      refine (implLike _ _).mono ?_
      rintro e w' ⟨rfl, rfl⟩
      rw [HY.out]
      go_wp2_with fail
      go_ret
      exact ⟨retInt HR.out, rfl⟩
    · have HR : Hid (ownOf lv = r) := by show _ = _; rw [← hr.out, among, HX.out, HY.out, if_pos (.inr q2)]
      have g2 : (x != y) = true := by simpa using q2
      go_enter Tryz.func116, Tryz.ntmps116
      go_wp2_with fail
      refine (implLike _ _).mono ?_
      rintro e w' ⟨rfl, rfl⟩
      rw [HX.out]
      go_wp2_with fail
      refine (implLike _ _).mono ?_
      rintro e w' ⟨rfl, rfl⟩
      rw [HY.out]
      go_wp2_with fail
      refine (implOwn _ _ h0).mono ?_
      rintro e w' ⟨rfl, rfl⟩
      rw [HR.out]
      go_wp2_with fail
      go_ret
      exact ⟨rfl, rfl⟩

set_option maxHeartbeats 1000000 in
theorem specNo? (c : Int) (w : World) : Calls Tryz.prog 68 #[.int .i64 c] w fun e w' => e = .returned (.bool (noP c)) ∧ w' = w := by
  go_enter Tryz.func68, Tryz.ntmps68
  go_wp2_with (go_at_call 17; refine (specIn _ _ _ _).mono ?_; rintro e w' ⟨rfl, rfl⟩)
  all_goals (go_ret; refine ⟨retBool ?_, rfl⟩)
  all_goals (try simp only [beq_iff_eq, beq_eq_false_iff_ne, ne_eq, inB, decide_eq_true_eq, decide_eq_false_iff_not] at *)
  all_goals (first | (unfold noP; simp; omega) | (unfold noP; rw [Bool.eq_iff_iff]; simp only [decide_eq_true_eq, Bool.or_eq_true, Bool.and_eq_true, beq_iff_eq]; try omega))
set_option maxHeartbeats 1000000 in
theorem specSide? (c : Int) (w : World) : Calls Tryz.prog 70 #[.int .i64 c] w fun e w' => e = .returned (.bool (sideB c)) ∧ w' = w := by
  go_enter Tryz.func70, Tryz.ntmps70
  go_wp2
  all_goals (go_ret; refine ⟨retBool ?_, rfl⟩)
  all_goals (try simp only [beq_iff_eq, beq_eq_false_iff_ne, ne_eq, decide_eq_true_eq, decide_eq_false_iff_not] at *)
  all_goals (first | (unfold sideB; simp; omega) | (unfold sideB; rw [Bool.eq_iff_iff]; simp only [decide_eq_true_eq, Bool.or_eq_true, Bool.and_eq_true, beq_iff_eq]; try omega))
set_option maxHeartbeats 1000000 in
theorem specAs (c : Int) (w : World) : Calls Tryz.prog 69 #[.int .i64 c] w fun e w' => e = .returned (.int .i64 (asB c)) ∧ w' = w := by
  go_enter Tryz.func69, Tryz.ntmps69
  go_wp2
  all_goals (go_ret; refine ⟨retInt ?_, rfl⟩)
  all_goals (try simp only [beq_iff_eq, beq_eq_false_iff_ne, ne_eq, decide_eq_true_eq, decide_eq_false_iff_not] at *)
  all_goals (unfold asB)
  all_goals (repeat (first | rfl | rw [if_pos (by omega)] | rw [if_neg (by omega)]))
set_option maxHeartbeats 1000000 in
theorem specOwn (c : Int) (w : World) (h0 : 0 ≤ c) : Calls Tryz.prog 58 #[.int .i64 c] w fun e w' => e = .returned (.int .i64 (ownOf c)) ∧ w' = w := by
  go_enter Tryz.func58, Tryz.ntmps58
  go_wp2
  all_goals (go_ret; refine ⟨retInt ?_, rfl⟩)
  all_goals (try simp only [beq_iff_eq, beq_eq_false_iff_ne, ne_eq, decide_eq_true_eq, decide_eq_false_iff_not] at *)
  all_goals (unfold ownOf)
  all_goals (repeat (first | rfl | rw [if_pos (by omega)] | rw [if_neg (by omega)]))
end Go.Proofs.YtgojdlbidjnmmabGreat
namespace Go.Proofs.YtgojdlbidjnmmabGreat
open Go.ChangeShapes Go.WideShapes Go.ChangeAt Go.RowKit
set_option linter.unusedSimpArgs false
set_option linter.unusedVariables false

set_option maxHeartbeats 2000000 in
theorem implPick (gq n cq bl ol m cl : Nat) (r : List Nat) (list : List Int) (w : World) (hr : r.length = n) (hn : n ≤ 1000) (hm : m ≤ 1000) (hgq : gq < w.heap.size) (hq : At w gq 0 (natL r)) (hbl : bl < w.heap.size) (hlist : At w bl ol list) (hlm : list.length = m) (hin : ∀ x ∈ r, x < m) :
    Calls Tryz.prog 79 #[.slice (some ⟨gq, 0, none⟩) n cq, .slice (some ⟨bl, ol, none⟩) m cl] w fun e w' => (∃ g, e = .returned (.slice (some ⟨g, 0, none⟩) n n) ∧ OwnI w' w.heap.size (.slice (some ⟨g, 0, none⟩) n n) (pickL r list)) ∧ Below w.heap.size w w' := by
  obtain ⟨i0, hi, hz0, hz1, hz2⟩ := info_parts infoN
  have HR : Hid (r.length = n) := hr
  clear hr
  have HC : Hid (∀ W, Below w.heap.size w W → ∀ j, (hj : j < n) → W.cell? ⟨gq, j, none⟩ = some (.int .i64 ((r[j]'(by rw [HR.out]; exact hj) : Nat) : Int)) ∧ W.cell? ⟨bl, ol + (r[j]'(by rw [HR.out]; exact hj)), none⟩ = some (.int .i64 (fn list (r[j]'(by rw [HR.out]; exact hj)))) ∧ (r[j]'(by rw [HR.out]; exact hj)) < m) := fun W hW j hj => by
    have hjr : j < r.length := by rw [HR.out]; exact hj
    have hx := hin _ (List.getElem_mem hjr)
    refine ⟨?_, ?_, hx⟩
    · have := (hq.below hW hgq) j (by rw [natL_len]; exact hjr)
      rw [Nat.zero_add, fn_natL hjr] at this; exact this
    · exact (hlist.below hW hbl) _ (by omega)
  clear hq hlist hlm hin hgq hbl
  go_enter Tryz.func79, Tryz.ntmps79
  go_wp2_with (first | (at_make; refine wpList_make_full _ rfl _ _ 22 rfl w.heap.size 3 i0 (.int .i64 0) 1 Tryz.underlying22 hi hz0 hz1 _ _ _ _ n rfl rfl rfl rfl (by rw [hz2]; omega) (by unfold maxLen; omega) (Nat.le_refl _) ?_; intro w1 hown hgrow))
  have hB : Below w.heap.size w w1 := (Below.refl _ _).grown hgrow (Nat.le_refl _) (by simp)
  have ho : OwnI w1 w.heap.size (.slice (some ⟨w.heap.size, 0, none⟩) n n) (List.replicate n 0) := made_row hown
  clear hown hgrow
  go_loopw [13] (fun i wr => ∃ (k : Nat) (S : List Int), k ≤ n ∧ i = .int .i64 k ∧ Hid (OwnI wr w.heap.size (.slice (some ⟨w.heap.size, 0, none⟩) n n) S) ∧ Hid (S.length = n ∧ ∀ j, (hj : j < n) → j < k → fn S j = fn list (r[j]'(by rw [HR.out]; exact hj))) ∧ Hid (Below w.heap.size w wr)) (fun i _ => n - (intOf i).toNat)
  case atStart => exact ⟨0, _, Nat.zero_le _, rfl, ho, ⟨by simp, fun j _ hj => by omega⟩, hB⟩
  case round =>
    obtain ⟨k, S, hk, rfl, hS, hC, hbel⟩ := hrel
    by_cases hlt : k < n
    · have hki : (k : Int) < (n : Int) := by omega
      obtain ⟨c1, c2, c3⟩ := HC.out wr hbel.out k hlt
      obtain ⟨x, hx⟩ : ∃ x, r[k]'(by rw [HR.out]; exact hlt) = x := ⟨_, rfl⟩
      obtain ⟨y, hy⟩ : ∃ y, fn list x = y := ⟨_, rfl⟩
      rw [hx] at c1 c2 c3
      rw [hy] at c2
      have hxi : (x : Int) < (m : Int) := by omega
      have cs := hS.out.cellN k hlt
      have fs : wr.frozen? ⟨w.heap.size, k, none⟩ = false := hS.out.frozenN k
      have hst : Hid (OwnI (wr.setCell ⟨w.heap.size, k, none⟩ (.int .i64 y)) w.heap.size (.slice (some ⟨w.heap.size, 0, none⟩) n n) (S.set k y)) := hS.out.storedN k y
      have hC2 : Hid ((S.set k y).length = n ∧ ∀ j, (hj : j < n) → j < k + 1 → fn (S.set k y) j = fn list (r[j]'(by rw [HR.out]; exact hj))) := ⟨by rw [List.length_set]; exact hC.out.1, fun j hj hjk => by
        by_cases e : j = k
        · subst e; rw [fn_set_same (by rw [hC.out.1]; exact hj), hx, hy]
        · rw [fn_set_other (by omega)]; exact hC.out.2 j hj (by omega)⟩
      have hb2 : Hid (Below w.heap.size w (wr.setCell ⟨w.heap.size, k, none⟩ (.int .i64 y))) := hbel.out.setCell (p := ⟨w.heap.size, k, none⟩) (Nat.le_refl _) _
      clear hx hy
      go_wp2_with fail
      go_roundw
      case rel => exact ⟨k + 1, _, by omega, by go_num, hst, hC2, hb2⟩
      case measure => simp only [intOf]; omega
    · have e : k = n := by omega
      subst e
      have hSe : S = pickL r list := ext_fn (by rw [hC.out.1, pickL_len, HR.out]) (fun j hj => by
        rw [hC.out.1] at hj
        rw [hC.out.2 j hj hj, fn_pickL (by rw [HR.out]; exact hj)])
      have HSE : Hid (S = pickL r list) := hSe
      clear hSe
      go_wp2_with fail
      go_ret
      exact ⟨⟨_, rfl, by rw [← HSE.out]; exact hS.out⟩, hbel.out⟩

theorem implBesideB (at_ : Nat) {B T gm gq gl gc n : Nat} {base : Int} {cs M L cls : List Int} (w : World) (h : TT w B T gm gq gl gc n base cs M L cls) (hn80 : n ≤ 1000) (ha : at_ ≤ n) :
    Calls Tryz.prog 99 #[.pointer (some ⟨T, 0, none⟩), .int .i64 (at_ : Int), .int .i64 (-1)] w fun e w' => e = .returned (.int .i64 (befL (fn L) base at_)) ∧ w' = w := by
  have c0 := h.c0
  have c3 := h.c3
  have HL : Hid (∀ x, x < n → w.cell? ⟨gl, x, none⟩ = some (.int .i64 (fn L x))) := fun x hx => h.ol.cellN x hx
  clear h
  go_enter Tryz.func99, Tryz.ntmps99
  go_wp2_with fail
  go_loop [1] (fun z => ∃ k : Nat, z = .int .i64 ((k : Int) - 1) ∧ k ≤ at_ ∧ Hid (befL (fn L) base at_ = befL (fn L) base k)) (fun z => (intOf z + 1).toNat)
  case atStart => exact ⟨at_, by first | rfl | (congr 1), Nat.le_refl _, rfl⟩
  case round =>
    obtain ⟨k, rfl, hk, he⟩ := hrel
    cases k with
    | zero =>
      go_wp2_with fail
      go_ret
      exact ⟨retInt he.out.symm, rfl⟩
    | succ k =>
      rw [show ((k + 1 : Nat) : Int) - 1 = (k : Int) by omega]
      have hkn : (k : Int) < (n : Int) := by omega
      have cx := HL.out k (by omega)
      obtain ⟨y, hy⟩ : ∃ y, fn L k = y := ⟨_, rfl⟩
      rw [hy] at cx
      have he2 : Hid (befL (fn L) base at_ = if 0 ≤ y then y else befL (fn L) base k) := by unfold Hid; rw [he.out]; simp only [befL, hy]
      clear he hy
      by_cases h0 : 0 ≤ y
      · go_wp2_with fail
        go_ret
        exact ⟨retInt (by rw [he2.out, if_pos h0]), rfl⟩
      · go_wp2_with fail
        go_round
        case rel => exact ⟨k, by first | rfl | (congr 1), by omega, by unfold Hid; rw [he2.out, if_neg h0]⟩
        case measure => simp only [intOf]; omega
theorem implBesideF (at_ : Nat) {B T gm gq gl gc n : Nat} {base : Int} {cs M L cls : List Int} (w : World) (h : TT w B T gm gq gl gc n base cs M L cls) (hn80 : n ≤ 1000) (ha : at_ < n) :
    Calls Tryz.prog 99 #[.pointer (some ⟨T, 0, none⟩), .int .i64 (at_ : Int), .int .i64 1] w fun e w' => e = .returned (.int .i64 (aftL (fn L) n base (n - (at_ + 1)))) ∧ w' = w := by
  have c0 := h.c0
  have c3 := h.c3
  have HL : Hid (∀ x, x < n → w.cell? ⟨gl, x, none⟩ = some (.int .i64 (fn L x))) := fun x hx => h.ol.cellN x hx
  clear h
  go_enter Tryz.func99, Tryz.ntmps99
  go_wp2_with fail
  go_loop [1] (fun z => ∃ k : Nat, z = .int .i64 (k : Int) ∧ k ≤ n ∧ Hid (aftL (fn L) n base (n - (at_ + 1)) = aftL (fn L) n base (n - k))) (fun z => n - (intOf z).toNat)
  case atStart => exact ⟨at_ + 1, by go_num, by omega, rfl⟩
  case round =>
    obtain ⟨k, rfl, hk, he⟩ := hrel
    by_cases hlt : k < n
    · have hkn : (k : Int) < (n : Int) := by omega
      have cx := HL.out k hlt
      by_cases h0 : 0 ≤ fn L k
      · have he2 : Hid (aftL (fn L) n base (n - (at_ + 1)) = fn L k) := by unfold Hid; rw [he.out, aftL_hit hlt h0]
        clear he
        go_wp2_with fail
        go_ret
        exact ⟨retInt he2.out.symm, rfl⟩
      · have he2 : Hid (aftL (fn L) n base (n - (at_ + 1)) = aftL (fn L) n base (n - (k + 1))) := by unfold Hid; rw [he.out, aftL_step hlt (by omega)]
        clear he
        go_wp2_with fail
        go_round
        case rel => exact ⟨k + 1, by go_num, by omega, he2⟩
        case measure => simp only [intOf]; omega
    · have e : k = n := by omega
      subst e
      have he2 : Hid (aftL (fn L) k base (k - (at_ + 1)) = base) := by unfold Hid; rw [he.out]; simp [aftL]
      clear he
      go_wp2_with fail
      go_ret
      exact ⟨retInt he2.out.symm, rfl⟩
theorem implMore (lvl c : Int) (w : World) (h0 : 0 ≤ lvl) (r : Int) (hr : Hid (moreF lvl c = r)) : Calls Tryz.prog 47 #[.int .i64 lvl, .int .i64 c] w fun e w' => e = .returned (.int .i64 r) ∧ w' = w := by
  have HO : Hid (∀ W, Calls Tryz.prog 81 #[.int .i64 lvl] W fun e w' => e = .returned (.int .i64 (ownOf lvl)) ∧ w' = W) := fun W => implOwn lvl W h0
  have hr2 := hr.out
  unfold moreF at hr2
  obtain ⟨o, ho⟩ : ∃ o, ownOf lvl = o := ⟨_, rfl⟩
  rw [ho] at hr2 HO
  have htm : lvl.tmod 2 = lvl % 2 := Int.tmod_eq_emod_of_nonneg h0
  by_cases h1 : c = o
  · rw [if_pos h1] at hr2
    have hb : (c == o) = true := by simpa using h1
    subst hr2
    clear h1 ho hr
    go_enter Tryz.func47, Tryz.ntmps47
    go_wp2_with (go_at_call 81; refine (HO.out _).mono ?_; rintro e w1 ⟨rfl, hw1⟩; rw [hw1]; clear hw1 w1)
    go_ret
    exact ⟨rfl, rfl⟩
  · rw [if_neg h1] at hr2
    have hb : (c == o) = false := by simpa using h1
    by_cases h2 : lvl % 2 = 0
    · have hm : (lvl % 2 == 0) = true := by simpa using h2
      have hm2 : (lvl.tmod 2 == 0) = true := by rw [htm]; exact hm
      by_cases h3 : c = 2
      · have hc2 : (c == 2) = true := by simpa using h3
        rw [if_neg (by simp [h3])] at hr2
        subst hr2
        clear h1 h3 ho hr htm
        go_enter Tryz.func47, Tryz.ntmps47
        go_wp2_with (go_at_call 81; refine (HO.out _).mono ?_; rintro e w1 ⟨rfl, hw1⟩; rw [hw1]; clear hw1 w1)
        go_ret
        exact ⟨rfl, rfl⟩
      · have hc2 : (c == 2) = false := by simpa using h3
        rw [if_pos ⟨h2, h3⟩] at hr2
        subst hr2
        clear h1 h3 ho hr htm
        go_enter Tryz.func47, Tryz.ntmps47
        go_wp2_with (go_at_call 81; refine (HO.out _).mono ?_; rintro e w1 ⟨rfl, hw1⟩; rw [hw1]; clear hw1 w1)
        go_ret
        exact ⟨rfl, rfl⟩
    · have hm : (lvl % 2 == 0) = false := by simpa using h2
      have hm2 : (lvl.tmod 2 == 0) = false := by rw [htm]; exact hm
      rw [if_neg (by simp [h2])] at hr2
      subst hr2
      clear h1 ho hr htm
      go_enter Tryz.func47, Tryz.ntmps47
      go_wp2_with (go_at_call 81; refine (HO.out _).mono ?_; rintro e w1 ⟨rfl, hw1⟩; rw [hw1]; clear hw1 w1)
      go_ret
      exact ⟨rfl, rfl⟩
end Go.Proofs.YtgojdlbidjnmmabGreat
namespace Go.Proofs.YtgojdlbidjnmmabGreat
open Go.ChangeShapes Go.WideShapes Go.ChangeAt Go.RowKit
set_option linter.unusedSimpArgs false
set_option linter.unusedVariables false

/-- Classes in which brackets get their sides, as they lie in memory. -/
structure BT (w : World) (K gt g n cp : Nat) (bf o : Int) (td x : List Int) : Prop where
  lt : K < w.heap.size
  c0 : w.cell? ⟨K, 0, none⟩ = some (.slice (some ⟨gt, 0, none⟩) n n)
  c1 : w.cell? ⟨K, 1, none⟩ = some (.slice (some ⟨g, 0, none⟩) n cp)
  c2 : w.cell? ⟨K, 2, none⟩ = some (.int .i64 bf)
  c3 : w.cell? ⟨K, 3, none⟩ = some (.int .i64 o)
  ot : OwnI w 0 (.slice (some ⟨gt, 0, none⟩) n n) td
  ox : OwnI w 0 (.slice (some ⟨g, 0, none⟩) n cp) x
  n1 : g ≠ gt
  n2 : g ≠ K
theorem grownB_set (w : World) (g j : Nat) (v : Value) : w.grownBy (w.setCell ⟨g, j, none⟩ v) (some g) :=
  ⟨rfl, rfl, rfl, by rw [World.size_setCell]; exact Nat.le_refl _, fun k _ hk => heap_setCell_other w ⟨g, j, none⟩ k v (fun e => hk (by simp at e; rw [e]))⟩
theorem grownB_tr {a b c : World} {row : Option Nat} (h : a.grownBy b row) (k : b.grownBy c row) : a.grownBy c row :=
  ⟨k.os.trans h.os, k.tape.trans h.tape, k.output.trans h.output, Nat.le_trans h.size k.size, fun j hj hne => (k.block j (Nat.lt_of_lt_of_le hj h.size) hne).trans (h.block j hj hne)⟩
theorem grownB_refl (w : World) (row : Option Nat) : w.grownBy w row := ⟨rfl, rfl, rfl, Nat.le_refl _, fun _ _ _ => rfl⟩
theorem grownB_draws (w : World) (q : Nat) (row : Option Nat) : w.grownBy (w.drewN q) row := ⟨rfl, rfl, rfl, Nat.le_refl _, fun _ _ _ => rfl⟩
section
variable {w : World} {K gt g n cp : Nat} {bf o : Int} {td x : List Int}
theorem BT.below {w' : World} (h : BT w K gt g n cp bf o td x) (hb : Below w.heap.size w w') : BT w' K gt g n cp bf o td x := by
  have e : ∀ j, w'.cell? ⟨K, j, none⟩ = w.cell? ⟨K, j, none⟩ := fun j => World.cell?_of_block (hb.block K h.lt)
  exact ⟨Nat.lt_of_lt_of_le h.lt hb.size, (e 0).trans h.c0, (e 1).trans h.c1, (e 2).trans h.c2, (e 3).trans h.c3, h.ot.below hb, h.ox.below hb, h.n1, h.n2⟩
theorem BT.drewN (h : BT w K gt g n cp bf o td x) (q : Nat) : BT (w.drewN q) K gt g n cp bf o td x := h.below (below_draws w q)
theorem BT.set (h : BT w K gt g n cp bf o td x) (j : Nat) (y : Int) : BT (w.setCell ⟨g, j, none⟩ (.int .i64 y)) K gt g n cp bf o td (x.set j y) := by
  have hb : ∀ c, c ≠ g → (w.setCell ⟨g, j, none⟩ (.int .i64 y)).heap[c]? = w.heap[c]? := fun c hc => heap_setCell_other w ⟨g, j, none⟩ c _ hc
  have e : ∀ q, (w.setCell ⟨g, j, none⟩ (.int .i64 y)).cell? ⟨K, q, none⟩ = w.cell? ⟨K, q, none⟩ := fun q => World.cell?_of_block (hb K (fun e => h.n2 e.symm))
  exact ⟨by rw [World.size_setCell]; exact h.lt, (e 0).trans h.c0, (e 1).trans h.c1, (e 2).trans h.c2, (e 3).trans h.c3, h.ot.kept (fun k hk => by simp [Value.ownBlock] at hk; subst hk; exact hb _ (fun e => h.n1 e.symm)), h.ox.storedN j y, h.n1, h.n2⟩
theorem BT.xlen (h : BT w K gt g n cp bf o td x) : x.length = n := h.ox.len
theorem BT.tlen (h : BT w K gt g n cp bf o td x) : td.length = n := h.ot.len
end

set_option maxHeartbeats 1000000 in
theorem implAhead (at_ : Nat) {K gt g n cp : Nat} {bf o : Int} {td x : List Int} (w : World) (h : BT w K gt g n cp bf o td x) (hn : n ≤ 1000) (ha : at_ ≤ n) :
    Calls Tryz.prog 112 #[.pointer (some ⟨K, 0, none⟩), .int .i64 (at_ : Int)] w fun e w' => e = .returned (.int .i64 (shA (fn x) bf at_)) ∧ w' = w := by
  have c1 := h.c1
  have c2 := h.c2
  have HX : Hid (∀ j, j < n → w.cell? ⟨g, j, none⟩ = some (.int .i64 (fn x j))) := fun j hj => h.ox.cellN j hj
  clear h
  go_enter Tryz.func112, Tryz.ntmps112
  go_wp2_with fail
  go_loop [1] (fun z => ∃ k : Nat, z = .int .i64 ((k : Int) - 1) ∧ k ≤ at_ ∧ Hid (shA (fn x) bf at_ = shA (fn x) bf k)) (fun z => (intOf z + 1).toNat)
  case atStart => exact ⟨at_, by first | rfl | (congr 1), Nat.le_refl _, rfl⟩
  case round =>
    obtain ⟨k, rfl, hk, he⟩ := hrel
    cases k with
    | zero =>
      go_wp2_with fail
      go_ret
      exact ⟨retInt he.out.symm, rfl⟩
    | succ k =>
      rw [show ((k + 1 : Nat) : Int) - 1 = (k : Int) by omega]
      have hkn : (k : Int) < (n : Int) := by omega
      have cx := HX.out k (by omega)
      obtain ⟨y, hy⟩ : ∃ y, fn x k = y := ⟨_, rfl⟩
      rw [hy] at cx
      obtain ⟨z, hz⟩ : ∃ z, like y = z := ⟨_, rfl⟩
      have he2 : Hid (shA (fn x) bf at_ = if z = 0 then shA (fn x) bf k else z) := by unfold Hid; rw [he.out]; simp only [shA, hy, hz]
      have HLK : Hid (∀ W, Calls Tryz.prog 111 #[.int .i64 y] W fun e w' => e = .returned (.int .i64 z) ∧ w' = W) := fun W => by rw [← hz]; exact implLike y W
      clear he hy hz
      by_cases h0 : z = 0
      · have hzb : (z == 0) = true := by simpa using h0
        go_wp2_with (go_at_call 111; refine (HLK.out _).mono ?_; rintro e w1 ⟨rfl, hw1⟩; rw [hw1]; clear hw1 w1)
        go_round
        case rel => exact ⟨k, by first | rfl | (congr 1), by omega, by unfold Hid; rw [he2.out, if_pos h0]⟩
        case measure => simp only [intOf]; omega
      · have hzb : (z == 0) = false := by simpa using h0
        go_wp2_with (go_at_call 111; refine (HLK.out _).mono ?_; rintro e w1 ⟨rfl, hw1⟩; rw [hw1]; clear hw1 w1)
        go_ret
        exact ⟨retInt (by rw [he2.out, if_neg h0]), rfl⟩

set_option maxHeartbeats 1000000 in
theorem implGive (at_ : Nat) (s : Int) {K gt g n cp : Nat} {bf o : Int} {td x : List Int} (w : World) (h : BT w K gt g n cp bf o td x) (hn : n ≤ 1000) (ha : at_ < n) :
    Calls Tryz.prog 113 #[.pointer (some ⟨K, 0, none⟩), .int .i64 (at_ : Int), .int .i64 s] w fun e w' => e = .returned (.tuple #[]) ∧ BT w' K gt g n cp bf o td (giveL (fn td) n s x at_) ∧ w.grownBy w' (some g) := by
  have c1 := h.c1
  have HB : Hid (BT w K gt g n cp bf o td x) := h
  have hai : (at_ : Int) < (n : Int) := by omega
  have cx := h.ox.cellN at_ ha
  have fx : w.frozen? ⟨g, at_, none⟩ = false := h.ox.frozenN at_
  clear h
  go_enter Tryz.func113, Tryz.ntmps113
  go_wp2_with fail
  go_loopw [1] (fun z wr => ∃ m : Nat, z = .int .i64 ((at_ + 1 + m : Nat) : Int) ∧ at_ + 1 + m ≤ n ∧ Hid (∀ i, i < m → fn td (at_ + 1 + i) = 9) ∧ Hid (BT wr K gt g n cp bf o td (setSeg x s at_ (1 + m))) ∧ Hid (w.grownBy wr (some g))) (fun z _ => n - (intOf z).toNat)
  case atStart => exact ⟨0, by go_num, by omega, fun i hi => by omega, HB.out.set at_ s, grownB_set _ _ _ _⟩
  case round =>
    obtain ⟨m, rfl, hm, h9, hBT, hgr⟩ := hrel
    have d0 := hBT.out.c0
    have d1 := hBT.out.c1
    obtain ⟨p, hp⟩ : ∃ p, at_ + 1 + m = p := ⟨_, rfl⟩
    rw [hp] at hm ⊢
    have HP : Hid (at_ + 1 + m = p) := hp
    clear hp
    by_cases hlt : p < n
    · have hpi : (p : Int) < (n : Int) := by omega
      have ct := hBT.out.ot.cellN p hlt
      obtain ⟨t, ht⟩ : ∃ t, fn td p = t := ⟨_, rfl⟩
      rw [ht] at ct
      have HT : Hid (fn td p = t) := ht
      clear ht
      by_cases h : t = 9
      · subst h
        have cy := hBT.out.ox.cellN p hlt
        have fy : wr.frozen? ⟨g, p, none⟩ = false := hBT.out.ox.frozenN p
        have hN : Hid (BT (wr.setCell ⟨g, p, none⟩ (.int .i64 s)) K gt g n cp bf o td (setSeg x s at_ (1 + (m + 1)))) := by
          unfold Hid
          rw [show 1 + (m + 1) = (1 + m) + 1 by omega]
          simp only [setSeg]
          rw [show at_ + (1 + m) = p by have := HP.out; omega]
          exact hBT.out.set p s
        go_wp2_with fail
        go_roundw
        case rel =>
          refine ⟨m + 1, by rw [show at_ + 1 + (m + 1) = p + 1 by have := HP.out; omega]; go_num, by have := HP.out; omega, fun i hi => ?_, hN, grownB_tr hgr.out (grownB_set _ _ _ _)⟩
          by_cases e : i = m
          · subst e; rw [HP.out]; exact HT.out
          · exact h9.out i (by omega)
        case measure => simp only [intOf]; omega
      · have htb : (t == 9) = false := by simpa using h
        have hfin : Hid (giveL (fn td) n s x at_ = setSeg x s at_ (1 + m)) := by
          unfold Hid giveL
          rw [k9F_is (n - (at_ + 1)) (at_ + 1) m (by have := HP.out; omega) h9.out (.inr (by rw [HP.out, HT.out]; exact h))]
        go_wp2_with fail
        go_end0
        exact ⟨rfl, by rw [hfin.out]; exact hBT.out, hgr.out⟩
    · have hpn : p = n := by omega
      subst hpn
      have hfin : Hid (giveL (fn td) p s x at_ = setSeg x s at_ (1 + m)) := by
        unfold Hid giveL
        rw [k9F_is (p - (at_ + 1)) (at_ + 1) m (by have := HP.out; omega) h9.out (.inl (by have := HP.out; omega))]
      go_wp2_with fail
      go_end0
      exact ⟨rfl, by rw [hfin.out]; exact hBT.out, hgr.out⟩
end Go.Proofs.YtgojdlbidjnmmabGreat
