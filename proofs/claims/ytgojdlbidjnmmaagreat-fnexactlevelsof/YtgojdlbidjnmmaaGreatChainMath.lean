import Derived.Test.YtgojdlbidjnmmaaGreatWinMath
namespace Go.Proofs.YtgojdlbidjnmmaaGreat
set_option linter.unusedSimpArgs false

/-- The level of the last letter ahead that has one; -1 if there is none. -/
def pvL (lv : Nat → Int) : Nat → Int
  | 0 => -1
  | k + 1 => if 0 ≤ lv k then lv k else pvL lv k
/-- Something of one level begins here. -/
def begB (lv : Nat → Int) (k : Nat) : Bool := decide (0 ≤ lv k ∧ pvL lv k ≠ lv k)
/-- Where what the last letter ahead is of begins. -/
def bgL (lv : Nat → Int) : Nat → Nat
  | 0 => 0
  | k + 1 => if begB lv k = true then k else bgL lv k
/-- It is of what begins at b. -/
def ofB (lv : Nat → Int) (b x : Nat) : Bool := decide (0 ≤ lv x) && bgL lv (x + 1) == b
/-- The places up to one that are of what begins at b. -/
def pieceN (lv : Nat → Int) (b k : Nat) : List Nat := (List.range k).filter (ofB lv b)
/-- The last of them. -/
def lastP (lv : Nat → Int) (b : Nat) : Nat → Nat
  | 0 => b
  | k + 1 => if ofB lv b k = true then k else lastP lv b k

theorem pv_inv (lv : Nat → Int) (k : Nat) : (pvL lv k = -1 ∧ ∀ x, x < k → lv x < 0) ∨ (0 ≤ pvL lv k ∧ pvL lv k = lv (bgL lv k) ∧ begB lv (bgL lv k) = true ∧ bgL lv k < k) := by
  induction k with
  | zero => exact .inl ⟨rfl, fun x h => by omega⟩
  | succ k ih =>
    simp only [pvL, bgL]
    by_cases hl : 0 ≤ lv k
    · rw [if_pos hl]
      by_cases hb : begB lv k = true
      · rw [if_pos hb]; exact .inr ⟨hl, rfl, hb, by omega⟩
      · rw [if_neg hb]
        have e : pvL lv k = lv k := by
          rcases Decidable.em (pvL lv k = lv k) with q | q
          · exact q
          · exact absurd (by simp [begB, hl, q]) hb
        rcases ih with ⟨a, _⟩ | ⟨a, b, d, f⟩
        · omega
        · exact .inr ⟨hl, by rw [← e]; exact b, d, by omega⟩
    · have hb : begB lv k = false := by simp [begB]; omega
      rw [if_neg hl, if_neg (by rw [hb]; simp)]
      rcases ih with ⟨a, b⟩ | ⟨a, b, d, f⟩
      · refine .inl ⟨a, fun x hx => ?_⟩
        by_cases e : x = k
        · subst e; omega
        · exact b x (by omega)
      · exact .inr ⟨a, b, d, by omega⟩
theorem beg_seen {lv : Nat → Int} {b : Nat} (h : begB lv b = true) : 0 ≤ lv b := by simp [begB] at h; exact h.1
theorem beg_pv {lv : Nat → Int} {b : Nat} (h : begB lv b = true) : pvL lv b ≠ lv b := by simp [begB] at h; exact h.2
theorem beg_no {lv : Nat → Int} {b : Nat} (h : begB lv b = false) (hs : 0 ≤ lv b) : pvL lv b = lv b := by
  rcases Decidable.em (pvL lv b = lv b) with q | q
  · exact q
  · exact absurd h (by simp [begB, hs, q])
theorem bg_beg {lv : Nat → Int} {b : Nat} (h : begB lv b = true) : bgL lv (b + 1) = b := by simp only [bgL]; rw [if_pos h]
theorem bg_stay {lv : Nat → Int} {b : Nat} (h : begB lv b = false) : bgL lv (b + 1) = bgL lv b := by simp only [bgL]; rw [if_neg (by rw [h]; simp)]
theorem bg_unseen {lv : Nat → Int} {b : Nat} (h : lv b < 0) : begB lv b = false := by simp [begB]; omega
theorem bg_le (lv : Nat → Int) (k : Nat) : bgL lv k ≤ k := by
  induction k with
  | zero => exact Nat.le_refl _
  | succ k ih => simp only [bgL]; split <;> omega
theorem bg_lt (lv : Nat → Int) (k : Nat) : bgL lv (k + 1) ≤ k := by
  have := bg_le lv k
  simp only [bgL]; split <;> omega
theorem bg_mono {lv : Nat → Int} {k m : Nat} (h : k ≤ m) : bgL lv k ≤ bgL lv m := by
  suffices hs : ∀ d, bgL lv k ≤ bgL lv (k + d) by
    have := hs (m - k); rwa [show k + (m - k) = m by omega] at this
  intro d
  induction d with
  | zero => exact Nat.le_refl _
  | succ d ih =>
    show _ ≤ bgL lv (k + d + 1)
    simp only [bgL]
    split
    · have := bg_le lv k; omega
    · exact ih
theorem of_seen {lv : Nat → Int} {b x : Nat} (h : ofB lv b x = true) : 0 ≤ lv x ∧ bgL lv (x + 1) = b := by simpa [ofB] using h
theorem of_mk {lv : Nat → Int} {b x : Nat} (h1 : 0 ≤ lv x) (h2 : bgL lv (x + 1) = b) : ofB lv b x = true := by simp [ofB, h1, h2]
/-- What a letter is of. -/
theorem of_self {lv : Nat → Int} {x : Nat} (h : 0 ≤ lv x) : ofB lv (bgL lv (x + 1)) x = true ∧ begB lv (bgL lv (x + 1)) = true ∧ lv x = lv (bgL lv (x + 1)) := by
  refine ⟨of_mk h rfl, ?_⟩
  rcases pv_inv lv (x + 1) with ⟨_, a⟩ | ⟨_, b, d, _⟩
  · have := a x (by omega); omega
  · refine ⟨d, ?_⟩
    rw [← b]; simp only [pvL]; rw [if_pos h]
theorem of_le {lv : Nat → Int} {b x : Nat} (h : ofB lv b x = true) : b ≤ x := by
  have := of_seen h; have := bg_lt lv x; omega
theorem of_beg {lv : Nat → Int} {b x : Nat} (h : ofB lv b x = true) : begB lv b = true ∧ lv x = lv b := by
  obtain ⟨h1, h2⟩ := of_seen h
  have := of_self h1
  rw [h2] at this; exact this.2
theorem of_b {lv : Nat → Int} {b : Nat} (h : begB lv b = true) : ofB lv b b = true := of_mk (beg_seen h) (bg_beg h)

theorem last_spec {lv : Nat → Int} {b n : Nat} (hb : begB lv b = true) (hn : b < n) : ofB lv b (lastP lv b n) = true ∧ lastP lv b n < n ∧ ∀ x, lastP lv b n < x → x < n → ofB lv b x = false := by
  induction n with
  | zero => omega
  | succ n ih =>
    simp only [lastP]
    by_cases h : ofB lv b n = true
    · rw [if_pos h]; exact ⟨h, by omega, fun x a c => by omega⟩
    · rw [if_neg h]
      rcases Nat.lt_or_ge b n with q | q
      · obtain ⟨a1, a2, a3⟩ := ih q
        refine ⟨a1, by omega, fun x c d => ?_⟩
        by_cases e : x = n
        · subst e; simpa using h
        · exact a3 x c (by omega)
      · have : b = n := by omega
        subst this; exact absurd (of_b hb) h
theorem last_unique {lv : Nat → Int} {b n i : Nat} (hi : ofB lv b i = true) (hin : i < n) (h : ∀ x, i < x → x < n → ofB lv b x = false) : lastP lv b n = i := by
  obtain ⟨hb, _⟩ := of_beg hi
  obtain ⟨a1, a2, a3⟩ := last_spec hb (Nat.lt_of_le_of_lt (of_le hi) hin)
  rcases Nat.lt_trichotomy (lastP lv b n) i with q | q | q
  · rw [a3 i q hin] at hi; cases hi
  · exact q
  · rw [h _ q a2] at a1; cases a1

/-- Behind something that opens, up to its end: either nothing has been seen, or it is deeper; or all is of its own level. -/
theorem win_walk {c lv : Nat → Int} {i j : Nat} (hw : WinAt c lv i j) : ∀ k, i + 1 ≤ k → k ≤ j →
    (pvL lv k = lv i ∧ bgL lv k = bgL lv (i + 1)) ∨ (lv i < pvL lv k ∧ i < bgL lv k ∧ ∀ x, i < x → x < k → 0 ≤ lv x → i < bgL lv (x + 1)) := by
  intro k
  induction k with
  | zero => intro h; omega
  | succ k ih =>
    intro h1 h2
    by_cases e : k = i
    · subst e; exact .inl ⟨by simp only [pvL]; rw [if_pos hw.seen], rfl⟩
    · have := ih (by omega) (by omega)
      by_cases hl : 0 ≤ lv k
      · have hp : pvL lv (k + 1) = lv k := by simp only [pvL]; rw [if_pos hl]
        rw [hp]
        rcases hw.within with hv | hv
        · have hk := hv k (by omega) (by omega) hl
          refine .inr ⟨hk, ?_⟩
          rcases this with ⟨a, b⟩ | ⟨a, b, d⟩
          · have hb : begB lv k = true := by simp [begB, hl, a]; omega
            rw [bg_beg hb]
            refine ⟨by omega, fun x x1 x2 x3 => ?_⟩
            by_cases ex : x = k
            · subst ex; rw [bg_beg hb]; exact x1
            · exfalso
              -- nothing has been seen ahead of k behind i
              have hg := hv x x1 (by omega) x3
              have hq : ∀ d, x + 1 + d ≤ k → lv i < pvL lv (x + 1 + d) := by
                intro d
                induction d with
                | zero => intro _; show lv i < pvL lv (x + 1); simp only [pvL]; rw [if_pos x3]; exact hg
                | succ d ihd =>
                  intro hd
                  show lv i < pvL lv (x + 1 + d + 1)
                  simp only [pvL]
                  split
                  · rename_i hs; exact hv _ (by omega) (by omega) hs
                  · exact ihd (by omega)
              have := hq (k - (x + 1)) (by omega)
              rw [show x + 1 + (k - (x + 1)) = k by omega] at this; omega
          · have hm := bg_mono (lv := lv) (show k ≤ k + 1 by omega)
            refine ⟨by omega, fun x x1 x2 x3 => ?_⟩
            by_cases ex : x = k
            · subst ex; omega
            · exact d x x1 (by omega) x3
        · have hk := hv k (by omega) (by omega) hl
          rcases this with ⟨a, b⟩ | ⟨a, b, d⟩
          · have hb : begB lv k = false := by simp [begB, hl, a, hk]
            exact .inl ⟨hk, by rw [bg_stay hb, b]⟩
          · -- cannot be: all seen are of one level
            exfalso
            have hq : ∀ k', i + 1 ≤ k' → k' ≤ k → pvL lv k' = lv i := by
              intro k'
              induction k' with
              | zero => intro z; omega
              | succ k' ihk =>
                intro z1 z2
                simp only [pvL]
                by_cases ek : k' = i
                · subst ek; rw [if_pos hw.seen]
                · split
                  · rename_i hs; exact hv k' (by omega) (by omega) hs
                  · exact ihk (by omega) (by omega)
            have := hq k (by omega) (Nat.le_refl _); omega
      · have hb : begB lv k = false := bg_unseen (by omega)
        have hp : pvL lv (k + 1) = pvL lv k := by simp only [pvL]; rw [if_neg hl]
        rw [hp, bg_stay hb]
        rcases this with ⟨a, b⟩ | ⟨a, b, d⟩
        · exact .inl ⟨a, b⟩
        · refine .inr ⟨a, b, fun x x1 x2 x3 => ?_⟩
          by_cases ex : x = k
          · subst ex; omega
          · exact d x x1 (by omega) x3
/-- What opens stands last of its piece: what ends it begins a piece. -/
theorem mate_beg {c lv : Nat → Int} {i j n b : Nat} (hw : WinAt c lv i j) (hij : i < j) (hjn : j < n) (hlast : lastP lv b n = i) (hb : begB lv b = true) (hbn : b < n) : begB lv j = true := by
  obtain ⟨a1, a2, a3⟩ := last_spec hb hbn
  rw [hlast] at a1 a2 a3
  have hs : 0 ≤ lv j := by rw [hw.same]; exact hw.seen
  rcases win_walk hw j (by omega) (Nat.le_refl _) with ⟨p, q⟩ | ⟨p, _, _⟩
  · cases h : begB lv j with
    | true => rfl
    | false =>
      exfalso
      have := a3 j hij hjn
      rw [of_mk hs (by rw [bg_stay h, q]; exact (of_seen a1).2)] at this
      cases this
  · simp [begB, hs]; rw [hw.same]; omega
/-- What ends something and begins a piece: what it ends stands last of its piece. -/
theorem mate_last {c lv : Nat → Int} {i j n : Nat} (hw : WinAt c lv i j) (hij : i < j) (hjn : j < n) (hb : begB lv j = true) : begB lv (bgL lv (i + 1)) = true ∧ lastP lv (bgL lv (i + 1)) n = i := by
  obtain ⟨s1, s2, s3⟩ := of_self hw.seen
  refine ⟨s2, last_unique s1 (by omega) fun x x1 x2 => ?_⟩
  have hle := bg_lt lv i
  rcases win_walk hw j (by omega) (Nat.le_refl _) with ⟨p, _⟩ | ⟨p, q, r⟩
  · exact absurd (by rw [p, hw.same]) (beg_pv hb)
  · cases h : ofB lv (bgL lv (i + 1)) x with
    | false => rfl
    | true =>
      exfalso
      obtain ⟨y1, y2⟩ := of_seen h
      rcases Nat.lt_or_ge x j with z | z
      · have := r x x1 z y1; omega
      · have := bg_mono (lv := lv) (show j ≤ x + 1 by omega); omega

theorem mate_inj {c : Nat → Int} {i i' j : Nat} (h : MateIs c i j) (h' : MateIs c i' j) : i = i' := by
  have hsplit : ∀ a m1 m2, dp c a (m1 + m2) = dp c a m1 + dp c (a + m1) m2 := by
    intro a m1 m2
    induction m2 with
    | zero => simp [dp]
    | succ m2 ih => rw [← Nat.add_assoc, dp_succ, ih, dp_succ, show a + (m1 + m2) = a + m1 + m2 by omega]; omega
  rcases Nat.lt_trichotomy i i' with q | q | q
  · have := h.pos (i' - i) (by omega) (by have := h'.lt; omega)
    have e := h.zero
    have e' := h'.zero
    rw [show j + 1 - i = (i' - i) + (j + 1 - i') by have := h'.lt; omega, hsplit, show i + (i' - i) = i' by omega] at e
    omega
  · exact q
  · have := h'.pos (i - i') (by omega) (by have := h.lt; omega)
    have e := h.zero
    have e' := h'.zero
    rw [show j + 1 - i' = (i - i') + (j + 1 - i) by have := h.lt; omega, hsplit, show i' + (i - i') = i by omega] at e'
    omega
end Go.Proofs.YtgojdlbidjnmmaaGreat
