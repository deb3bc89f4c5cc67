import Derived.Test.YtgojdlbidjnmmaaGreatRunsI
namespace Go.Proofs.YtgojdlbidjnmmaaGreat
set_option linter.unusedSimpArgs false
set_option linter.unusedVariables false

section
variable {c lv : Nat → Int} {n : Nat} {mt : Nat → Nat} {M : List Int}
theorem begN_le {k m : Nat} (h : k ≤ m) : ∃ r, begN lv m = begN lv k ++ r := by
  induction m with
  | zero => have : k = 0 := by omega
            subst this; exact ⟨[], by simp⟩
  | succ m ih =>
    by_cases e : k = m + 1
    · subst e; exact ⟨[], by simp⟩
    · obtain ⟨r, hr⟩ := ih (by omega)
      rw [begN_succ, hr, List.append_assoc]; exact ⟨_, rfl⟩
/-- What begins at b stands behind all that have begun ahead of it. -/
theorem begN_idx {b : Nat} (hb : begB lv b = true) (hbn : b < n) : ∃ r, begN lv n = begN lv b ++ b :: r := by
  obtain ⟨r, hr⟩ := begN_le (lv := lv) (show b + 1 ≤ n by omega)
  rw [begN_succ, if_pos hb, List.append_assoc] at hr
  exact ⟨r, hr⟩
theorem begN_lt {b : Nat} (hb : begB lv b = true) (hbn : b < n) : (begN lv b).length < (begN lv n).length := by
  obtain ⟨r, hr⟩ := begN_idx hb hbn
  rw [hr, List.length_append, List.length_cons]; omega
theorem begN_order {b j : Nat} (hb : begB lv b = true) (h : b < j) : (begN lv b).length < (begN lv j).length := begN_lt hb h
/-- The piece at a place of the list. -/
theorem begN_at {q : Nat} (hq : q < (begN lv n).length) : ∃ b, b < n ∧ begB lv b = true ∧ (begN lv b).length = q := by
  obtain ⟨b, hbe⟩ : ∃ b, (begN lv n)[q] = b := ⟨_, rfl⟩
  have hm : b ∈ begN lv n := by rw [← hbe]; exact List.getElem_mem hq
  obtain ⟨h1, h2⟩ := begN_mem.1 hm
  refine ⟨b, h1, h2, ?_⟩
  obtain ⟨r, hr⟩ := begN_idx h2 h1
  have hnd : (begN lv n).Pairwise (· < ·) := by unfold begN; exact (List.pairwise_lt_range).filter _
  have hlt := begN_lt h2 h1
  have hat : (begN lv n)[(begN lv b).length] = b := by
    have : (begN lv n)[(begN lv b).length]? = some b := by rw [hr]; simp
    rw [List.getElem?_eq_getElem hlt] at this
    exact Option.some.inj this
  rcases Nat.lt_trichotomy (begN lv b).length q with h | h | h
  · have := (List.pairwise_iff_getElem.1 hnd) _ _ hlt hq h; omega
  · exact h
  · have := (List.pairwise_iff_getElem.1 hnd) _ _ hq hlt h; omega
theorem pcs_at {b : Nat} (hb : begB lv b = true) (hbn : b < n) : rN (natR (pcsN lv n)) (begN lv b).length = natL (pieceN lv b n) := by
  obtain ⟨r, hr⟩ := begN_idx hb hbn
  unfold pcsN natR rN
  rw [hr, List.getD_eq_getElem?_getD]
  simp
theorem pcs_len : (natR (pcsN lv n)).length = (begN lv n).length := by unfold pcsN natR; simp
theorem lev_at {P : List (Value × Int)} (h : levTo lv n P) {b : Nat} (hb : begB lv b = true) (hbn : b < n) : (pN P (begN lv b).length).2 = lv b := by
  obtain ⟨r, hr⟩ := begN_idx hb hbn
  unfold levTo at h
  have hl : (begN lv b).length < P.length := by rw [lev_len h]; exact begN_lt hb hbn
  have : (P.map (·.2))[(begN lv b).length]? = some (lv b) := by rw [h, hr]; simp
  rw [List.getElem?_map, List.getElem?_eq_getElem hl] at this
  simp at this
  unfold pN
  rw [List.getD_eq_getElem?_getD, List.getElem?_eq_getElem hl]
  exact this
/-- Where what is read together begins, up to a place. -/
def stN (c lv : Nat → Int) (mt : Nat → Nat) (k : Nat) : List Nat := (List.range k).filter (startN c lv mt)
theorem stN_succ (k : Nat) : stN c lv mt (k + 1) = stN c lv mt k ++ (if startN c lv mt k = true then [k] else []) := by
  unfold stN
  rw [List.range_succ, List.filter_append]
  congr 1
  simp only [List.filter_cons, List.filter_nil]
theorem stN_more {k m : Nat} (h : k ≤ m) (hno : ∀ x, k ≤ x → x < m → begB lv x = false) : stN c lv mt m = stN c lv mt k := by
  induction m with
  | zero => have : k = 0 := by omega
            subst this; rfl
  | succ m ih =>
    by_cases e : k = m + 1
    · subst e; rfl
    · rw [stN_succ, if_neg (by rw [no_start (hno m (by omega) (by omega))]; simp), List.append_nil, ih (by omega) (fun x a b => hno x a (by omega))]
/-- No piece begins between two that stand side by side in the list. -/
theorem no_beg_between {b b2 : Nat} (hb : begB lv b = true) (h : (begN lv b2).length = (begN lv b).length + 1) {x : Nat} (h1 : b + 1 ≤ x) (h2 : x < b2) : begB lv x = false := by
  cases hx : begB lv x with
  | false => rfl
  | true =>
    have := begN_order hb (show b < x by omega)
    have := begN_order hx h2
    omega
theorem begN_none {b : Nat} (h : (begN lv b).length = 0) {x : Nat} (h2 : x < b) : begB lv x = false := by
  cases hx : begB lv x with
  | false => rfl
  | true => have := begN_order hx h2; omega
theorem runsTo_st (k : Nat) : runsTo c lv n mt k = (stN c lv mt k).map (chainN c lv n mt) := rfl
theorem stN_len (k : Nat) : (stN c lv mt k).length ≤ k := by unfold stN; have := List.length_filter_le (startN c lv mt) (List.range k); rwa [List.length_range] at this
theorem begN_mono {k m : Nat} (h : k ≤ m) : (begN lv k).length ≤ (begN lv m).length := by
  obtain ⟨r, hr⟩ := begN_le (lv := lv) h
  rw [hr, List.length_append]; omega
/-- Where as many have begun, the same have. -/
theorem stN_to {k m : Nat} (h : k ≤ m) (he : (begN lv m).length = (begN lv k).length) : stN c lv mt m = stN c lv mt k :=
  stN_more h fun x h1 h2 => by
    cases hx : begB lv x with
    | false => rfl
    | true => have := begN_order hx h2; have := begN_mono (lv := lv) h1; omega
/-- Behind the last piece. -/
theorem no_beg_rest {b : Nat} (hb : begB lv b = true) (hbn : b < n) (h : (begN lv n).length = (begN lv b).length + 1) {x : Nat} (h1 : b + 1 ≤ x) (h2 : x < n) : begB lv x = false := no_beg_between hb h h1 h2

/-- The mate of the last letter of a piece, as the list has it. -/
def molF (c : Nat → Int) (M : List Int) (x : Nat) : Int := if opensB (c x) = true then fn M x else -1
theorem mol_some (hs : SameMates c n mt M) {x j : Nat} (hx : x < n) (ho : opensB (c x) = true) (hm : mt x = j) (hj : j < n) : molF c M x = (j : Int) := by
  unfold molF
  rw [if_pos ho]
  rcases hs x hx ho with ⟨_, e⟩ | ⟨e, _⟩
  · rw [e, hm]
  · omega
theorem mol_none (hs : SameMates c n mt M) {b : Nat} (hb : begB lv b = true) (hbn : b < n) (h : scN c lv n mt b = none) : molF c M (lastP lv b n) = -1 := by
  obtain ⟨_, a2, _⟩ := last_spec hb hbn
  unfold scN at h
  unfold molF
  split at h
  · cases h
  · rename_i hc
    by_cases ho : opensB (c (lastP lv b n)) = true
    · rw [if_pos ho]
      rcases hs _ a2 ho with ⟨e, _⟩ | ⟨_, e⟩
      · exact absurd ⟨ho, e⟩ hc
      · exact e
    · rw [if_neg ho]
/-- What closes nothing, by the list. -/
theorem clos_ge (ht : Txt c lv n mt) (hs : SameMates c n mt M) (hcl : ClosTo c n M) {b : Nat} (hbn : b < n) (h22 : c b = 22) : decide (0 ≤ fn M b) = closN c mt b := by
  have hno : opensB (c b) = false := by rw [h22]; decide
  rcases hcl b hbn hno with ⟨i, hi, ho, hm, e⟩ | ⟨e, hn⟩
  · rw [e]
    have : mt i = b := by
      rcases ht.mates i (by omega) ho with ⟨q, _⟩ | ⟨_, q⟩
      · exact mate_unique q hm
      · exact (mate_not hm hbn q).elim
    have h1 : closN c mt b = true := by
      unfold closN; rw [List.any_eq_true]
      exact ⟨i, by rw [List.mem_range]; exact hi, by simp [ho, this]⟩
    rw [h1]; simp
  · rw [e]
    have h1 : closN c mt b = false := by
      unfold closN; rw [List.any_eq_false]
      intro i hi
      rw [List.mem_range] at hi
      intro h2
      rw [Bool.and_eq_true] at h2
      obtain ⟨ho, h3⟩ := h2
      have hmb : mt i = b := by simpa using h3
      rcases ht.mates i (by omega) ho with ⟨q, _⟩ | ⟨q, _⟩
      · exact hn i hi ho (by rw [← hmb]; exact q)
      · omega
    rw [h1]; decide
end
end Go.Proofs.YtgojdlbidjnmmaaGreat
