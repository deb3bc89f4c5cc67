import Derived.Test.YtgojdlbidjnmmabGreatPk28
import Derived.Test.YtgojdlbidjnmmabGreatPk10
import Derived.Test.YtgojdlbidjnmmabGreatPk26
import Derived.Test.YtgojdlbidjnmmabGreatPk25
import Derived.Test.YtgojdlbidjnmmabGreatPk22
namespace Go.Proofs.YtgojdlbidjnmmabGreat
set_option linter.unusedSimpArgs false

theorem fn_repO {n j : Nat} {x : Int} (h : j < n) : fn (List.replicate n x) j = x := by simp [fn, h]
theorem stA_spec (q : Nat → Bool) (x : Nat) : (∀ y, stA q x ≤ y → y < x → q y = true) ∧ (stA q x = 0 ∨ q (stA q x - 1) = false) := by
  induction x with
  | zero => exact ⟨fun y _ h => by omega, .inl rfl⟩
  | succ x ih =>
    simp only [stA]
    split
    · rename_i h
      refine ⟨fun y h1 h2 => ?_, ih.2⟩
      by_cases e : y = x
      · subst e; exact h
      · exact ih.1 y h1 (by omega)
    · rename_i h
      exact ⟨fun y h1 h2 => by omega, .inr (by simpa using h)⟩
theorem enA_spec (q : Nat → Bool) (f x : Nat) : (∀ y, x ≤ y → y < enA q f x → q y = true) ∧ (enA q f x = x + f ∨ q (enA q f x) = false) := by
  induction f generalizing x with
  | zero => exact ⟨fun y h1 h2 => by simp [enA] at h2; omega, .inl rfl⟩
  | succ f ih =>
    simp only [enA]
    split
    · rename_i h
      obtain ⟨h1, h2⟩ := ih (x + 1)
      refine ⟨fun y a b => ?_, ?_⟩
      · by_cases e : y = x
        · subst e; exact h
        · exact h1 y (by omega) b
      · rcases h2 with h2 | h2
        · exact .inl (by omega)
        · exact .inr h2
    · rename_i h
      exact ⟨fun y a b => by omega, .inr (by simpa using h)⟩
/-- The stretch of a place. -/
theorem stretch {q : Nat → Bool} {n x : Nat} (hx : x < n) (hq : q x = true) : ∃ s e, s ≤ x ∧ x < e ∧ e ≤ n ∧ (∀ y, s ≤ y → y < e → q y = true) ∧ (s = 0 ∨ q (s - 1) = false) ∧ (e = n ∨ q e = false) := by
  refine ⟨stA q x, enA q (n - x) x, stA_le q x, ?_, ?_, ?_, (stA_spec q x).2, ?_⟩
  · obtain ⟨f, hf⟩ : ∃ f, n - x = f + 1 := ⟨n - x - 1, by omega⟩
    rw [hf]; simp only [enA]; rw [if_pos hq]; have := (enA_bounds q f (x + 1)).1; omega
  · have := (enA_bounds q (n - x) x).2; omega
  · intro y h1 h2
    by_cases e : y < x
    · exact (stA_spec q x).1 y h1 e
    · exact (enA_spec q (n - x) x).1 y (by omega) h2
  · rcases (enA_spec q (n - x) x).2 with h | h
    · exact .inl (by omega)
    · exact .inr h
/-- Where what stands at a place has stood. -/
def turnTo (q : Nat → Bool) (n x : Nat) : Nat := if q x = true then stA q x + enA q (n - x) x - 1 - x else x
theorem turnTo_in {q : Nat → Bool} {n s e x : Nat} (hs : s ≤ x) (he : x < e) (hn : e ≤ n) (hin : ∀ y, s ≤ y → y < e → q y = true) (hb : s = 0 ∨ q (s - 1) = false) (hb2 : e = n ∨ q e = false) : turnTo q n x = s + e - 1 - x := by
  unfold turnTo
  rw [if_pos (hin x hs he), stA_is hs (fun y a b => hin y a (by omega)) hb, enA_is (by omega) hn (fun y a b => hin y (by omega) b) hb2]
theorem turnTo_lt {q : Nat → Bool} {n x : Nat} (hx : x < n) : turnTo q n x < n := by
  by_cases hq : q x = true
  · obtain ⟨s, e, h1, h2, h3, h4, h5, h6⟩ := stretch hx hq
    rw [turnTo_in h1 h2 h3 h4 h5 h6]; omega
  · simp [turnTo, hq]; exact hx
theorem turnTo_twice {q : Nat → Bool} {n x : Nat} (hx : x < n) : turnTo q n (turnTo q n x) = x := by
  by_cases hq : q x = true
  · obtain ⟨s, e, h1, h2, h3, h4, h5, h6⟩ := stretch hx hq
    rw [turnTo_in h1 h2 h3 h4 h5 h6, turnTo_in (by omega) (by omega) h3 h4 h5 h6]; omega
  · simp [turnTo, hq]
theorem fn_turnTo {q : Nat → Bool} {l : List Int} {x : Nat} (h : x < l.length) : fn (turned q l) x = fn l (turnTo q l.length x) := by
  rw [fn_turned h]; unfold turnAt turnTo; split <;> rfl

/-- An order: each place that is seen stands in it once. -/
structure Ord (lv : List Int) (o : List Int) : Prop where
  inn : ∀ x, x < o.length → 0 ≤ fn o x ∧ fn o x < (lv.length : Int) ∧ 0 ≤ fn lv (fn o x).toNat
  inj : ∀ x y, x < o.length → y < o.length → fn o x = fn o y → x = y
  all : ∀ j, j < lv.length → 0 ≤ fn lv j → ∃ x, x < o.length ∧ fn o x = (j : Int)
theorem Ord.turned {lv o : List Int} (h : Ord lv o) (q : Nat → Bool) : Ord lv (turned q o) := by
  refine ⟨fun x hx => ?_, fun x y hx hy e => ?_, fun j hj h0 => ?_⟩
  · rw [turned_len] at hx
    rw [fn_turnTo hx]
    exact h.inn _ (turnTo_lt hx)
  · rw [turned_len] at hx hy
    rw [fn_turnTo hx, fn_turnTo hy] at e
    have := h.inj _ _ (turnTo_lt hx) (turnTo_lt hy) e
    rw [← turnTo_twice (q := q) hx, this, turnTo_twice hy]
  · obtain ⟨x, hx, e⟩ := h.all j hj h0
    exact ⟨turnTo q o.length x, by rw [turned_len]; exact turnTo_lt hx, by rw [fn_turnTo (turnTo_lt hx), turnTo_twice hx, e]⟩
theorem Ord.all_turns {lv : List Int} (m : Nat) {o : List Int} (h : Ord lv o) : Ord lv (ordN lv m o) := by
  induction m generalizing o with
  | zero => exact h
  | succ m ih => simp only [ordN]; exact ih (h.turned _)
theorem fn_snoc (o : List Int) (x : Int) : fn (o ++ [x]) o.length = x := by simp [fn]
theorem ord0_facts (z : Nat → Int) (k : Nat) : (∀ x, x < (ord0 z k).length → 0 ≤ fn (ord0 z k) x ∧ fn (ord0 z k) x < (k : Int) ∧ 0 ≤ z (fn (ord0 z k) x).toNat) ∧
    (∀ x y, x < (ord0 z k).length → y < (ord0 z k).length → fn (ord0 z k) x = fn (ord0 z k) y → x = y) ∧ ∀ j, j < k → 0 ≤ z j → fn (ord0 z k) (ord0 z j).length = (j : Int) ∧ (ord0 z j).length < (ord0 z k).length := by
  induction k with
  | zero => simp [ord0]
  | succ k ih =>
    obtain ⟨h1, h2, h3⟩ := ih
    simp only [ord0]
    split
    · rename_i h0
      refine ⟨fun x hx => ?_, fun x y hx hy e => ?_, fun j hj hz => ?_⟩
      · simp at hx
        by_cases e : x = (ord0 z k).length
        · subst e; rw [fn_snoc]; simp; exact ⟨by omega, h0⟩
        · rw [fn_append_left (by omega)]; have := h1 x (by omega); omega
      · simp at hx hy
        by_cases ex : x = (ord0 z k).length
        · by_cases ey : y = (ord0 z k).length
          · omega
          · exfalso
            rw [ex, fn_snoc, fn_append_left (by omega)] at e
            have := h1 y (by omega); omega
        · by_cases ey : y = (ord0 z k).length
          · exfalso
            rw [ey, fn_snoc, fn_append_left (by omega)] at e
            have := h1 x (by omega); omega
          · rw [fn_append_left (by omega), fn_append_left (by omega)] at e
            exact h2 x y (by omega) (by omega) e
      · by_cases e : j = k
        · subst e; rw [fn_snoc]; simp
        · obtain ⟨a, b⟩ := h3 j (by omega) hz
          rw [fn_append_left b]; simp; exact ⟨a, by omega⟩
    · rename_i h0
      refine ⟨fun x hx => ?_, h2, fun j hj hz => ?_⟩
      · have := h1 x hx; omega
      · by_cases e : j = k
        · subst e; exact absurd hz h0
        · exact h3 j (by omega) hz
theorem ord0_ord (lv : List Int) : Ord lv (ord0 (fn lv) lv.length) := by
  obtain ⟨h1, h2, h3⟩ := ord0_facts (fn lv) lv.length
  exact ⟨h1, h2, fun j hj h0 => ⟨_, (h3 j hj h0).2, (h3 j hj h0).1⟩⟩
theorem orderL_ord (lv : List Int) : Ord lv (orderL lv) := (ord0_ord lv).all_turns _
theorem orderL_len (lv : List Int) : (orderL lv).length = (ord0 (fn lv) lv.length).length := by unfold orderL; rw [ordN_len]

theorem backF_at {n : Nat} {o : List Int} (hin : ∀ x, x < o.length → 0 ≤ fn o x ∧ fn o x < (n : Int)) (hj : ∀ x y, x < o.length → y < o.length → fn o x = fn o y → x = y) (k : Nat) (hk : k ≤ o.length) :
    (∀ x, x < k → fn (backF n o k) (fn o x).toNat = (x : Int)) ∧ ∀ p, p < n → (∀ x, x < k → fn o x ≠ (p : Int)) → fn (backF n o k) p = -1 := by
  induction k with
  | zero => exact ⟨fun x hx => by omega, fun p hp _ => by simp only [backF]; exact fn_repO hp⟩
  | succ k ih =>
    obtain ⟨h1, h2⟩ := ih (by omega)
    have hk0 := hin k (by omega)
    have hl := backF_len n o k
    simp only [backF]
    refine ⟨fun x hx => ?_, fun p hp hne => ?_⟩
    · by_cases e : x = k
      · subst e; rw [fn_set_same (by omega)]
      · have hx0 := hin x (by omega)
        rw [fn_set_other (fun e2 => e (hj x k (by omega) (by omega) (by omega)))]
        exact h1 x (by omega)
    · have := hne k (by omega)
      rw [fn_set_other (by omega)]
      exact h2 p hp (fun x hx => hne x (by omega))
/-- What the law asks of a place. -/
theorem back_is (lv : List Int) {i : Nat} (hi : i < lv.length) :
    (fn lv i < 0 → fn (backF lv.length (orderL lv) (orderL lv).length) i = -1) ∧ (0 ≤ fn lv i → ∃ x : Nat, x < (orderL lv).length ∧ fn (backF lv.length (orderL lv) (orderL lv).length) i = (x : Int) ∧ fn (orderL lv) x = (i : Int)) := by
  have ho := orderL_ord lv
  obtain ⟨h1, h2⟩ := backF_at (n := lv.length) (fun x hx => ⟨(ho.inn x hx).1, (ho.inn x hx).2.1⟩) ho.inj _ (Nat.le_refl _)
  refine ⟨fun h => h2 i hi (fun x hx e => ?_), fun h => ?_⟩
  · have := (ho.inn x hx).2.2
    rw [e] at this; simp at this; omega
  · obtain ⟨x, hx, e⟩ := ho.all i hi h
    refine ⟨x, hx, ?_, e⟩
    have := h1 x hx
    rw [e] at this; simpa using this
end Go.Proofs.YtgojdlbidjnmmabGreat
namespace Go.Proofs.YtgojdlbidjnmmabGreat
open Go.ChangeShapes Go.WideShapes Go.ChangeAt Go.RowKit

set_option maxHeartbeats 1000000 in
theorem implMirror (r : Int) (w : World) : Calls Tryz.prog 31 #[.int .i64 r] w fun e w' => e = .returned (.int .i64 (mirror r)) ∧ w' = w := by
  by_cases hm : mate r = 0
  · have hb : (mate r == 0) = true := by simp [hm]
    go_enter Tryz.func31, Tryz.ntmps31
    go_wp2_with (go_at_call 50; refine (implMate _ _).mono ?_; rintro e w' ⟨rfl, rfl⟩)
    all_goals (go_ret; refine ⟨ret_int ?_, rfl⟩)
    all_goals (simp_all [mirror])
  · have hb : (mate r == 0) = false := by simp [hm]
    go_enter Tryz.func31, Tryz.ntmps31
    go_wp2_with (go_at_call 50; refine (implMate _ _).mono ?_; rintro e w' ⟨rfl, rfl⟩)
    all_goals (go_ret; refine ⟨ret_int ?_, rfl⟩)
    all_goals (simp_all [mirror])

set_option maxHeartbeats 1000000 in
theorem specMirror (r : Int) (w : World) : Calls Tryz.prog 12 #[.int .i64 r] w fun e w' => e = .returned (.int .i64 (mirror r)) ∧ Below w.heap.size w w' := by
  by_cases hm : mate r = 0
  · have hb : (mate r == 0) = true := by simp [hm]
    go_enter Tryz.func12, Tryz.ntmps12
    go_wp2_with fail
    refine (specMate _ _).mono ?_
    rintro e w' ⟨rfl, hw⟩
    go_wp2_with fail
    all_goals (go_ret; refine ⟨ret_int ?_, hw⟩)
    all_goals (simp_all [mirror])
  · have hb : (mate r == 0) = false := by simp [hm]
    go_enter Tryz.func12, Tryz.ntmps12
    go_wp2_with fail
    refine (specMate _ _).mono ?_
    rintro e w' ⟨rfl, hw⟩
    go_wp2_with fail
    refine (specMate _ _).mono ?_
    rintro e w'' ⟨rfl, hw2⟩
    go_wp2_with fail
    all_goals (go_ret; refine ⟨ret_int ?_, hw.trans (hw2.mono hw.size)⟩)
    all_goals (simp_all [mirror])
end Go.Proofs.YtgojdlbidjnmmabGreat
namespace Go.Proofs.YtgojdlbidjnmmabGreat
set_option linter.unusedSimpArgs false
set_option linter.unusedVariables false

/-- What is seen of a letter on a level. -/
def seenF (r v : Int) : Int := if v % 2 = 1 then mirror r else r
/-- What is seen of a line, its levels being known. -/
def seenL (l lv : List Int) (f : Nat) : List Int := (orderL lv).map (fun p => seenF (fn l (f + p.toNat)) (fn lv p.toNat))
theorem seenL_len (l lv : List Int) (f : Nat) : (seenL l lv f).length = (orderL lv).length := by simp [seenL]
theorem seenL_take {l lv : List Int} {f k : Nat} (h : k < (orderL lv).length) : (seenL l lv f).take (k + 1) = (seenL l lv f).take k ++ [seenF (fn l (f + (fn (orderL lv) k).toNat)) (fn lv (fn (orderL lv) k).toNat)] := by
  have hk : k < (seenL l lv f).length := by rw [seenL_len]; exact h
  rw [List.take_add_one, List.getElem?_eq_getElem hk]
  simp [seenL, fn_get h]
def seenR (l : List Int) (mt : Nat → Nat) (base f t : Int) : List Int := seenL l (lineLR l mt base f t) f.toNat
theorem levF_rng {l : List Int} {mt : Nat → Nat} {base : Int} {n : Nat} (h : LevTxt l mt base n) {j : Nat} (hj : j < n) : -1 ≤ fn (levsF l mt base) j ∧ fn (levsF l mt base) j ≤ 22 := by
  have hb := lvAt_bd (cl l) (fsF (cl l) mt) h.b01 j
  rw [← fn_lvL (n := n) hj] at hb
  have h01 := h.b01
  by_cases hs : 0 ≤ fn (lvL (cl l) (fsF (cl l) mt) base n) j
  · obtain ⟨r, k, hk, _, _, e, _⟩ := levF_at h hj hs
    have hm := moreF_bd (fn (lvL (cl l) (fsF (cl l) mt) base n) j) (fn (runL (cl l) l (lvL (cl l) (fsF (cl l) mt) base n) (clL (cl l) (fsF (cl l) mt) base n) n mt base r) k)
    rcases hb with ⟨_, q⟩ | ⟨_, q1, q2⟩ <;> omega
  · have e := levF_no h hj (by omega)
    rcases hb with ⟨_, q⟩ | ⟨_, q1, q2⟩ <;> omega
/-- The levels of a line are levels. -/
theorem lineLR_ok {l : List Int} {mt : Nat → Nat} {base f t : Int} (hmt : MateFn (cl l) l.length mt) : (lineLR l mt base f t).length ≤ 80 ∧ ∀ j, j < (lineLR l mt base f t).length → -1 ≤ fn (lineLR l mt base f t) j ∧ fn (lineLR l mt base f t) j ≤ 22 := by
  by_cases h : okT l base = true ∧ 0 ≤ f ∧ f ≤ t ∧ t ≤ l.length
  · have hx := levTxt h.1 hmt
    have hl := lineLR_le l mt base f t
    have h80 := hx.h80
    refine ⟨by omega, ?_⟩
    rw [lineLR_yes h]
    unfold lineLv
    rw [llF_len]
    intro j hj
    rw [show fn (llF (fun j => fn l (f.toNat + j)) (fun j => fn (levsF l mt base) (f.toNat + j)) (t.toNat - f.toNat) base) j = llA (fun j => fn l (f.toNat + j)) (fun j => fn (levsF l mt base) (f.toNat + j)) (t.toNat - f.toNat) base j from fn_mkL hj]
    unfold llA
    have := levF_rng hx (j := f.toNat + j) (by omega)
    have := hx.b01
    split <;> omega
  · rw [lineLR_no h]; simp
theorem lineLR_lv {l : List Int} {mt : Nat → Nat} {base f t : Int} (hmt : MateFn (cl l) l.length mt) : lvF (fn (lineLR l mt base f t)) (lineLR l mt base f t).length = true := by
  obtain ⟨h1, h2⟩ := lineLR_ok (base := base) (f := f) (t := t) hmt
  rw [lvF_all (fun j hj => decide_eq_true (h2 j hj))]
  exact decide_eq_true h1
theorem ordR_line {l : List Int} {mt : Nat → Nat} {base f t : Int} (hmt : MateFn (cl l) l.length mt) : ordR (lineLR l mt base f t) = orderL (lineLR l mt base f t) := if_pos (lineLR_lv hmt)
/-- A place of a line's order: it is there, and so is its letter. -/
theorem seen_at {l : List Int} {mt : Nat → Nat} {base f t : Int} {k : Nat} (hk : k < (orderL (lineLR l mt base f t)).length) : ∃ p : Nat, fn (orderL (lineLR l mt base f t)) k = (p : Int) ∧ p < (lineLR l mt base f t).length ∧ f.toNat + p < l.length ∧ 0 ≤ f := by
  have hi := orderL_inn (lineLR l mt base f t) k hk
  refine ⟨(fn (orderL (lineLR l mt base f t)) k).toNat, by omega, by omega, ?_⟩
  by_cases h : okT l base = true ∧ 0 ≤ f ∧ f ≤ t ∧ t ≤ l.length
  · have hl : (lineLR l mt base f t).length = t.toNat - f.toNat := by rw [lineLR_yes h]; unfold lineLv; rw [llF_len]
    rw [hl] at hi
    omega
  · rw [lineLR_no h] at hi
    simp at hi
    omega
end Go.Proofs.YtgojdlbidjnmmabGreat
namespace Go.Proofs.YtgojdlbidjnmmabGreat
open Go.ChangeShapes Go.WideShapes Go.ChangeAt Go.RowKit Go.Deep
set_option linter.unusedSimpArgs false
set_option linter.unusedVariables false

set_option maxHeartbeats 1000000 in
theorem implOdd (v : Int) (w : World) (q : Bool) (hq : Hid ((Int.tmod v 2 != 0) = q)) : Calls Tryz.prog 30 #[.int .i64 v] w fun e w' => e = .returned (.bool q) ∧ w' = w := by
  go_enter Tryz.func30, Tryz.ntmps30
  go_wp2_with fail
  go_ret
  exact ⟨retBool hq.out, rfl⟩
set_option maxHeartbeats 1000000 in
theorem implSeenOn (r v : Int) (w : World) (h0 : 0 ≤ v) (x : Int) (hx : Hid (seenF r v = x)) : Calls Tryz.prog 15 #[.int .i64 r, .int .i64 v] w fun e w' => e = .returned (.int .i64 x) ∧ w' = w := by
  have ht : Int.tmod v 2 = v % 2 := Int.tmod_eq_emod_of_nonneg h0
  rcases Int.emod_two_eq v with hm | hm
  · have hm2 : Int.tmod v 2 = 0 := by omega
    have HX : Hid (x = r) := by unfold Hid; rw [← hx.out]; unfold seenF; rw [if_neg (by omega)]
    clear ht hm
    have HZ : Hid ((Int.tmod v 2 != 0) = false) := by unfold Hid; rw [hm2]; rfl
    clear hm2
    go_enter Tryz.func15, Tryz.ntmps15
    go_wp2_with (first | (go_at_call 30; refine (implOdd v _ false HZ.out).mono ?_; rintro e w2 ⟨rfl, hw2⟩; rw [hw2]; clear hw2 w2) | (go_at_call 31; refine (implMirror _ _).mono ?_; rintro e w1 ⟨rfl, hw1⟩; rw [hw1]; clear hw1 w1))
    go_ret
    exact ⟨retInt HX.out.symm, rfl⟩
  · have hm2 : Int.tmod v 2 = 1 := by omega
    have HX : Hid (x = mirror r) := by unfold Hid; rw [← hx.out]; unfold seenF; rw [if_pos hm]
    have HZ : Hid ((Int.tmod v 2 != 0) = true) := by unfold Hid; rw [hm2]; rfl
    clear ht hm hm2
    go_enter Tryz.func15, Tryz.ntmps15
    go_wp2_with (first | (go_at_call 30; refine (implOdd v _ true HZ.out).mono ?_; rintro e w2 ⟨rfl, hw2⟩; rw [hw2]; clear hw2 w2) | (go_at_call 31; refine (implMirror _ _).mono ?_; rintro e w1 ⟨rfl, hw1⟩; rw [hw1]; clear hw1 w1))
    go_ret
    exact ⟨retInt HX.out.symm, rfl⟩

set_option maxRecDepth 10000 in
set_option maxHeartbeats 8000000 in
theorem implSeen (v : Value) (l : List Int) (mt : Nat → Nat) (base f t : Int) (w : World) (a : Option Addr) (cap : Nat) (hva : v = .slice a l.length cap) (hv : Arg w v l) (hl : l.length ≤ 1048576) (hmt : Hid (MateFn (cl l) l.length mt)) :
    Calls Tryz.prog 6 #[v, .int .i64 base, .int .i64 f, .int .i64 t] w fun e w' => (∃ v', e = .returned v' ∧ OwnI w' w.heap.size v' (seenR l mt base f t)) ∧ Below w.heap.size w w' := by
  subst hva
  have hLN := implLine (.slice a l.length cap) l mt base f t w a cap rfl hv hl hmt
  have HLN : Hid _ := hLN
  have hOR := ordR_line (base := base) (f := f) (t := t) hmt.out
  have hok := lineLR_ok (base := base) (f := f) (t := t) hmt.out
  have hpt : ∀ k, k < (orderL (lineLR l mt base f t)).length → ∃ p : Nat, fn (orderL (lineLR l mt base f t)) k = (p : Int) ∧ p < (lineLR l mt base f t).length ∧ f.toNat + p < l.length ∧ 0 ≤ f ∧ 0 ≤ fn (lineLR l mt base f t) p := fun k hk => by
    obtain ⟨p, h1, h2, h3, h4⟩ := seen_at hk
    have h5 := ((orderL_ord (lineLR l mt base f t)).inn k hk).2.2
    rw [h1] at h5
    exact ⟨p, h1, h2, h3, h4, h5⟩
  unfold seenR
  have htk := fun k (hk : k < (orderL (lineLR l mt base f t)).length) => seenL_take (l := l) (f := f.toNat) hk
  have hsl := seenL_len l (lineLR l mt base f t) f.toNat
  have ho1 := ordR_len (lineLR l mt base f t)
  rw [hOR] at ho1
  obtain ⟨X, hX⟩ : ∃ X, lineLR l mt base f t = X := ⟨_, rfl⟩
  rw [hX] at HLN hOR hok hpt htk hsl ho1 ⊢
  obtain ⟨O, hO⟩ : ∃ O, orderL X = O := ⟨_, rfl⟩
  rw [hO] at hOR hpt htk hsl ho1
  obtain ⟨fz, hfz⟩ : ∃ fz, f.toNat = fz := ⟨_, rfl⟩
  rw [hfz] at hpt htk hsl ⊢
  obtain ⟨S, hS⟩ : ∃ S, seenL l X fz = S := ⟨_, rfl⟩
  rw [hS] at htk hsl ⊢
  obtain ⟨n, hn⟩ : ∃ n, l.length = n := ⟨_, rfl⟩
  obtain ⟨nx, hnx⟩ : ∃ nx, X.length = nx := ⟨_, rfl⟩
  obtain ⟨N, hN⟩ : ∃ N, O.length = N := ⟨_, rfl⟩
  rw [hn] at hpt HLN hl ⊢
  rw [hnx] at hpt hok
  rw [hN] at hpt htk hsl ho1
  have HOR : Hid (ordR X = O) := hOR
  have HPT : Hid _ := hpt
  have HTK : Hid _ := htk
  have HSL : Hid (S.length = N) := hsl
  have HN : Hid (l.length = n) := hn
  have HNX : Hid (X.length = nx) := hnx
  have HNO : Hid (O.length = N) := hN
  have HFZ : Hid (f.toNat = fz) := hfz
  have HV : Hid (Arg w (.slice a n cap) l) := by rw [← hn]; exact hv
  have hnx80 := hok.1
  have HX4 : Hid (X.length ≤ 4194304) := show X.length ≤ 4194304 by omega
  have HEMP : Hid (S.take 0 = []) := List.take_zero
  clear hLN hOR hok hpt htk hsl hX hO hfz hS hn hnx hN hv
  go_enter Tryz.func6, Tryz.ntmps6
  go_wp2_with fail
  refine Calls.mono HLN.out ?_
  rintro e w1 ⟨⟨v9, rfl, o9⟩, b1⟩
  go_wp2_with fail
  refine (implOrd v9 X _ o9.arg HX4.out).mono ?_
  rintro e w2 ⟨⟨v19, rfl, o19⟩, b2⟩
  rw [HOR.out] at o19
  have O9 : Hid (OwnI w2 w.heap.size v9 X) := o9.below b2
  have O19 : Hid (OwnI w2 w1.heap.size v19 O) := o19
  have HB2 : Hid (Below w.heap.size w w2) := bstep b1 b2
  have hsz2 := HB2.out.size
  obtain ⟨a19, c19, rfl⟩ : ∃ a19 c19, v19 = .slice a19 N c19 := by
    rcases o19.forms with ⟨rfl, e⟩ | ⟨g, c, rfl, _⟩
    · have := HNO.out; rw [e] at this; simp at this; subst this; exact ⟨_, _, rfl⟩
    · rw [HNO.out]; exact ⟨_, _, rfl⟩
  clear o9 o19 b1 b2
  go_wp2_with fail
  go_loopw [10, 21] (fun x10 x21 wr => ∃ (k : Nat) (vs : Value), x10 = vs ∧ x21 = .int .i64 k ∧ k ≤ N ∧ Hid (OwnI wr w2.heap.size vs (S.take k)) ∧ Hid (Below w2.heap.size w2 wr)) (fun _ x21 _ => N - (intOf x21).toNat)
  case atStart => exact ⟨0, _, rfl, rfl, Nat.zero_le _, by rw [HEMP.out]; exact OwnI.nil _ _, Below.refl _ _⟩
  case round =>
    obtain ⟨k, vs, e10, rfl, hk, hVS, hbx⟩ := hrel
    rename World => wx
    rw [e10]
    clear e10
    by_cases hkN : k < N
    · have hki : (k : Int) < (N : Int) := by omega
      obtain ⟨p, hp1, hp2, hp3, hf0, hp4⟩ := HPT.out k hkN
      have hfe : f = (fz : Int) := by have := HFZ.out; omega
      have htk := HTK.out k hkN
      rw [hp1] at htk
      simp only [Int.toNat_natCast] at htk
      rcases O19.out.forms with ⟨e, _⟩ | ⟨g19, c19', e, _, hg19, _, _, _⟩
      · simp only [Value.slice.injEq] at e; omega
      simp only [Value.slice.injEq] at e
      obtain ⟨rfl, -, rfl⟩ := e
      obtain ⟨g9, c9, e9, _⟩ := OwnI.form1 O9.out (fun e => by have := HNX.out; rw [e] at this; simp at this; omega)
      rw [HNX.out] at e9
      subst e9
      obtain ⟨bl, ol, e1, hbl, hat⟩ : ∃ bl ol, a = some ⟨bl, ol, none⟩ ∧ bl < w.heap.size ∧ At w bl ol l := by
        rcases HV.out with ⟨a0, cap0, e1, e2⟩ | ⟨b, off, cap', e1, hb, hlc, hcm, hat⟩
        · have := HN.out; rw [e2] at this; simp at this; omega
        · simp only [Value.slice.injEq] at e1
          exact ⟨b, off, e1.1, hb, hat⟩
      subst e1
      have x1 := (O19.out.below hbx.out).cellN k (by have := HNO.out; omega)
      have x2 := (O9.out.below hbx.out).cellN p (by have := HNX.out; omega)
      have x3 := (hat.below (HB2.out.trans (hbx.out.mono hsz2)) hbl) (fz + p) (by have := HN.out; omega)
      rw [hp1] at x1
      obtain ⟨r, hr⟩ : ∃ r, fn l (fz + p) = r := ⟨_, rfl⟩
      obtain ⟨lv, hlv⟩ : ∃ lv, fn X p = lv := ⟨_, rfl⟩
      rw [hr] at x3 htk
      rw [hlv] at x2 htk hp4
      obtain ⟨xv, hxv⟩ : ∃ xv, seenF r lv = xv := ⟨_, rfl⟩
      rw [hxv] at htk
      have HTK1 : Hid (S.take (k + 1) = S.take k ++ [xv]) := htk
      have HON : Hid (∀ V, Calls Tryz.prog 15 #[.int .i64 r, .int .i64 lv] V fun e w' => e = .returned (.int .i64 xv) ∧ w' = V) := fun V => implSeenOn r lv V hp4 xv hxv
      obtain ⟨q, hq⟩ : ∃ q, fz + p = q := ⟨_, rfl⟩
      rw [hq] at x3
      have hqi : (fz : Int) + (p : Int) = (q : Int) := by omega
      have hqn : (q : Int) < (n : Int) := by omega
      have hpi : (p : Int) < (nx : Int) := by omega
      have hwp : IntKind.i64.wrap (q : Int) = (q : Int) := by rw [IntKind.wrap_i64]; omega
      have hlcs : (S.take k).length + 1 ≤ 1048576 := by rw [List.length_take, HSL.out]; omega
      obtain ⟨lc, hlc⟩ : ∃ lc, S.take k = lc := ⟨_, rfl⟩
      rw [hlc] at hVS HTK1 hlcs
      have hsx := hbx.out.size
      have HOA : Hid (OwnI ((wx.drewN 1).alloc (.cells #[.int .i64 xv] 3)) w2.heap.size vs lc) := litO hVS.out
      have HLT : Hid (OwnI ((wx.drewN 1).alloc (.cells #[.int .i64 xv] 3)) wx.heap.size (.slice (some ⟨wx.heap.size, 0, none⟩) 1 1) [xv]) := litL wx
      have hsA : w2.heap.size ≤ ((wx.drewN 1).alloc (.cells #[.int .i64 xv] 3)).heap.size := by rw [litS]; omega
      have HBA : Hid (∀ V, ((wx.drewN 1).alloc (.cells #[.int .i64 xv] 3)).grownBy V vs.ownBlock → Below w2.heap.size w2 V) := fun V hV => (litB hbx.out).grown hV (litB hbx.out).size (fun b hb => (hVS.out.lt b hb).1)
      clear htk hp1 hat hr hlv hxv hlc hq
      subst hfe
      go_upto_region 6 with fail
      go_region_law (first
        | (refine step_appendR (B := w2.heap.size) (.tmp 25) (.tmp 37) Tryz.underlying22 (show OwnI _ _ _ _ from HOA.out) (show OwnI _ _ _ _ from HLT.out) (by omega) hlcs hsA rfl rfl rfl rfl ?_; intro g7 c7 w7 o7 g7' n7; have O7 : Hid (OwnI w7 w2.heap.size (.slice (some ⟨g7, 0, none⟩) (lc.length + 1) c7) (lc ++ [xv])) := o7; have HB7 : Hid (Below w2.heap.size w2 w7) := HBA.out w7 ⟨g7'.os, g7'.tape, g7'.output, g7'.size, g7'.block⟩; clear o7 g7' n7)
        | (go_simp; go_at_call 15; refine (HON.out _).mono ?_; rintro e w6 ⟨rfl, hw6⟩; rw [hw6]; clear hw6 w6))
      all_goals
        go_wp2_with fail
        go_roundw
        case rel => exact ⟨k + 1, _, rfl, by go_num, by omega, by rw [HTK1.out]; exact O7.out, HB7.out⟩
        case measure => simp only [intOf]; omega
    · have e : k = N := by omega
      subst e
      rw [List.take_of_length_le (by rw [HSL.out]; exact Nat.le_refl _)] at hVS
      go_wp2_with fail
      go_ret
      exact ⟨⟨_, rfl, hVS.out.mono hsz2⟩, HB2.out.trans (hbx.out.mono hsz2)⟩
end Go.Proofs.YtgojdlbidjnmmabGreat
