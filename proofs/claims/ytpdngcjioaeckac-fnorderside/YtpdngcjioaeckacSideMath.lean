import Derived.Test.YtpdngcjioaeckacOrdMath
namespace Go.Proofs.Ytpdngcjioaeckac
set_option linter.unusedSimpArgs false

/-- A place and the next one stand side by side, as they are written (d even) or the other way round. -/
def Adj (o : List Int) (i d : Nat) : Prop :=
  ∃ x, x + 1 < o.length ∧ ((d % 2 = 0 ∧ fn o x = (i : Int) ∧ fn o (x + 1) = ((i + 1 : Nat) : Int)) ∨ (d % 2 = 1 ∧ fn o x = ((i + 1 : Nat) : Int) ∧ fn o (x + 1) = (i : Int)))
theorem adj_turn {lv o : List Int} {i d v : Nat} {m : Int} (h : Adj o i d) (h1 : fn lv i = (v : Int)) (h2 : fn lv (i + 1) = (v : Int)) :
    (m ≤ (v : Int) → Adj (turned (atLeast lv o m) o) i (d + 1)) ∧ ((v : Int) < m → Adj (turned (atLeast lv o m) o) i d) := by
  obtain ⟨x, hx, hc⟩ := h
  have e1 : fn lv (fn o x).toNat = (v : Int) ∧ fn lv (fn o (x + 1)).toNat = (v : Int) := by
    rcases hc with ⟨_, a, b⟩ | ⟨_, a, b⟩
    · rw [a, b, Int.toNat_natCast, Int.toNat_natCast]; exact ⟨h1, h2⟩
    · rw [a, b, Int.toNat_natCast, Int.toNat_natCast]; exact ⟨h2, h1⟩
  refine ⟨fun hm => ?_, fun hm => ?_⟩
  · have q1 : atLeast lv o m x = true := by simp [atLeast, e1.1]; exact hm
    have q2 : atLeast lv o m (x + 1) = true := by simp [atLeast, e1.2]; exact hm
    obtain ⟨s, e, a1, a2, a3, a4, a5, a6⟩ := stretch (show x < o.length by omega) q1
    have a7 : x + 1 < e := by
      rcases Nat.lt_or_ge (x + 1) e with c | c
      · exact c
      · have : e = x + 1 := by omega
        subst this
        rcases a6 with a6 | a6
        · omega
        · rw [q2] at a6; cases a6
    refine ⟨s + e - 1 - (x + 1), by rw [turned_len]; omega, ?_⟩
    rw [fn_turnTo (by omega), fn_turnTo (by omega), turnTo_in (by omega) (by omega) a3 a4 a5 a6, turnTo_in (by omega) (by omega) a3 a4 a5 a6,
      show s + e - 1 - (s + e - 1 - (x + 1)) = x + 1 by omega, show s + e - 1 - (s + e - 1 - (x + 1) + 1) = x by omega]
    rcases hc with ⟨p, a, b⟩ | ⟨p, a, b⟩
    · exact .inr ⟨by omega, b, a⟩
    · exact .inl ⟨by omega, b, a⟩
  · have q1 : atLeast lv o m x = false := by simp [atLeast, e1.1]; exact hm
    have q2 : atLeast lv o m (x + 1) = false := by simp [atLeast, e1.2]; exact hm
    refine ⟨x, by rw [turned_len]; exact hx, ?_⟩
    rw [fn_turned (by omega), fn_turned hx, turn_out q1, turn_out q2]
    exact hc
theorem adj_all {lv : List Int} {i v : Nat} (h1 : fn lv i = (v : Int)) (h2 : fn lv (i + 1) = (v : Int)) (m : Nat) {o : List Int} {d : Nat} (h : Adj o i d) : Adj (ordN lv m o) i (d + min m v) := by
  induction m generalizing o d with
  | zero => simpa [ordN] using h
  | succ m ih =>
    simp only [ordN]
    obtain ⟨a, b⟩ := adj_turn (m := (m : Int) + 1) h h1 h2
    by_cases c : m + 1 ≤ v
    · have := ih (a (by omega))
      rw [show d + min (m + 1) v = d + 1 + min m v by omega]; exact this
    · have := ih (b (by omega))
      rw [show d + min (m + 1) v = d + min m v by omega]; exact this
theorem mostF_ge (z : Nat → Int) (k j : Nat) (h : j < k) : z j ≤ mostF z k := by
  induction k with
  | zero => omega
  | succ k ih =>
    simp only [mostF]
    by_cases e : j = k
    · subst e; split <;> omega
    · have := ih (by omega); split <;> omega
theorem adj_order {lv : List Int} {i v : Nat} (hi : i + 1 < lv.length) (h1 : fn lv i = (v : Int)) (h2 : fn lv (i + 1) = (v : Int)) : Adj (orderL lv) i v := by
  obtain ⟨_, _, h3⟩ := ord0_facts (fn lv) lv.length
  obtain ⟨a1, a2⟩ := h3 i (by omega) (by omega)
  obtain ⟨b1, b2⟩ := h3 (i + 1) hi (by omega)
  have e : (ord0 (fn lv) (i + 1)).length = (ord0 (fn lv) i).length + 1 := by
    simp only [ord0]; rw [if_pos (by omega)]; simp
  rw [e] at b1 b2
  have h0 : Adj (ord0 (fn lv) lv.length) i 0 := ⟨_, b2, .inl ⟨rfl, a1, b1⟩⟩
  have hm := mostF_ge (fn lv) lv.length i (by omega)
  have := adj_all h1 h2 (mostF (fn lv) lv.length).toNat h0
  rw [show 0 + min (mostF (fn lv) lv.length).toNat v = v by omega] at this
  exact this
/-- What the law asks of neighbours. -/
theorem side_is (lv : List Int) {i v : Nat} (hi : i + 1 < lv.length) (h1 : fn lv i = (v : Int)) (h2 : fn lv (i + 1) = (v : Int)) :
    ∃ x : Nat, x + 1 < (orderL lv).length ∧ ((v % 2 = 0 ∧ fn (backF lv.length (orderL lv) (orderL lv).length) i = (x : Int) ∧ fn (backF lv.length (orderL lv) (orderL lv).length) (i + 1) = ((x : Int) + 1)) ∨
      (v % 2 = 1 ∧ fn (backF lv.length (orderL lv) (orderL lv).length) i = ((x : Int) + 1) ∧ fn (backF lv.length (orderL lv) (orderL lv).length) (i + 1) = (x : Int))) := by
  have ho := orderL_ord lv
  obtain ⟨b1, _⟩ := backF_at (n := lv.length) (fun x hx => ⟨(ho.inn x hx).1, (ho.inn x hx).2.1⟩) ho.inj _ (Nat.le_refl _)
  obtain ⟨x, hx, hc⟩ := adj_order hi h1 h2
  refine ⟨x, hx, ?_⟩
  have c1 := b1 x (by omega)
  have c2 := b1 (x + 1) hx
  rcases hc with ⟨p, a, b⟩ | ⟨p, a, b⟩
  · rw [a, Int.toNat_natCast] at c1
    rw [b, Int.toNat_natCast] at c2
    exact .inl ⟨p, c1, by rw [c2]; omega⟩
  · rw [a, Int.toNat_natCast] at c1
    rw [b, Int.toNat_natCast] at c2
    exact .inr ⟨p, by rw [c2]; omega, c1⟩
end Go.Proofs.Ytpdngcjioaeckac
