import Derived.Test.YtgojdlbidjnmmaaGreatChainMath
import Derived.Test.YtgojdlbidjnmmaaGreatSides
namespace Go.Proofs.YtgojdlbidjnmmaaGreat
set_option linter.unusedSimpArgs false
set_option linter.unusedVariables false

/-- What letters, their levels and mates are, up to n. -/
structure Txt (c lv : Nat → Int) (n : Nat) (mt : Nat → Nat) : Prop where
  mates : MateFn c n mt
  win : ∀ i, i < n → opensB (c i) = true → mt i < n → WinAt c lv i (mt i)

section
variable {c lv : Nat → Int} {n : Nat} {mt : Nat → Nat}
/-- What goes on with a piece. -/
def scN (c lv : Nat → Int) (n : Nat) (mt : Nat → Nat) (b : Nat) : Option Nat :=
  if opensB (c (lastP lv b n)) = true ∧ mt (lastP lv b n) < n then some (mt (lastP lv b n)) else none
def chainF (c lv : Nat → Int) (n : Nat) (mt : Nat → Nat) : Nat → Nat → List Nat
  | 0, b => pieceN lv b n
  | f + 1, b => pieceN lv b n ++ (match scN c lv n mt b with | some j => chainF c lv n mt f j | none => [])
def chainN (c lv : Nat → Int) (n : Nat) (mt : Nat → Nat) (b : Nat) : List Nat := chainF c lv n mt n b
/-- It ends something that is read by itself. -/
def closN (c : Nat → Int) (mt : Nat → Nat) (b : Nat) : Bool := (List.range b).any fun i => opensB (c i) && mt i == b
def startN (c lv : Nat → Int) (mt : Nat → Nat) (b : Nat) : Bool := begB lv b && !(decide (c b = 22) && closN c mt b)
def runsTo (c lv : Nat → Int) (n : Nat) (mt : Nat → Nat) (k : Nat) : List (List Nat) := ((List.range k).filter (startN c lv mt)).map (chainN c lv n mt)

theorem sc_some (ht : Txt c lv n mt) {b j : Nat} (hb : begB lv b = true) (hbn : b < n) (h : scN c lv n mt b = some j) :
    opensB (c (lastP lv b n)) = true ∧ mt (lastP lv b n) = j ∧ j < n ∧ begB lv j = true ∧ b < j ∧ MateIs c (lastP lv b n) j ∧ c j = 22 ∧ closN c mt j = true := by
  unfold scN at h
  split at h
  · rename_i hc
    simp only [Option.some.injEq] at h
    obtain ⟨a1, a2, a3⟩ := last_spec hb hbn
    have hm : MateIs c (lastP lv b n) (mt (lastP lv b n)) := by
      rcases ht.mates _ a2 hc.1 with ⟨q, _⟩ | ⟨q, _⟩
      · exact q
      · omega
    have hlt := hm.lt
    have hle := of_le a1
    have hw := ht.win _ a2 hc.1 hc.2
    refine ⟨hc.1, h, by omega, ?_, by omega, by rw [← h]; exact hm, by rw [← h]; exact (mate_class hm).1, ?_⟩
    · rw [← h]; exact mate_beg hw hlt hc.2 rfl hb hbn
    · unfold closN
      rw [List.any_eq_true]
      exact ⟨lastP lv b n, by rw [List.mem_range]; omega, by simp [hc.1, h]⟩
  · cases h
theorem chainF_more (ht : Txt c lv n mt) : ∀ d e b, begB lv b = true → b < n → n - b ≤ d → n - b ≤ e → chainF c lv n mt d b = chainF c lv n mt e b := by
  intro d
  induction d with
  | zero => intro e b hb hbn h1 h2; omega
  | succ d ih =>
    intro e b hb hbn h1 h2
    cases e with
    | zero => omega
    | succ e =>
      simp only [chainF]
      cases hs : scN c lv n mt b with
      | none => rfl
      | some j =>
        obtain ⟨_, _, hj, hbj, hlt, _⟩ := sc_some ht hb hbn hs
        simp only
        rw [ih e j hbj hj (by omega) (by omega)]
theorem chain_eq (ht : Txt c lv n mt) {b : Nat} (hb : begB lv b = true) (hbn : b < n) :
    chainN c lv n mt b = pieceN lv b n ++ (match scN c lv n mt b with | some j => chainN c lv n mt j | none => []) := by
  unfold chainN
  obtain ⟨d, hd⟩ : ∃ d, n = d + 1 := ⟨n - 1, by omega⟩
  rw [show chainF c lv n mt n b = chainF c lv n mt (d + 1) b by rw [← hd]]
  simp only [chainF]
  cases hs : scN c lv n mt b with
  | none => rfl
  | some j =>
    obtain ⟨_, _, hj, hbj, hlt, _⟩ := sc_some ht hb hbn hs
    simp only
    rw [chainF_more ht d n j hbj hj (by omega) (by omega)]

theorem piece_succ (lv : Nat → Int) (b k : Nat) : pieceN lv b (k + 1) = pieceN lv b k ++ (if ofB lv b k = true then [k] else []) := by
  unfold pieceN
  rw [List.range_succ, List.filter_append]
  congr 1
  simp only [List.filter_cons, List.filter_nil]
/-- The first of a piece. -/
theorem piece_at (lv : Nat → Int) {b : Nat} (hb : begB lv b = true) : pieceN lv b b = [] := by
  unfold pieceN
  rw [List.filter_eq_nil_iff]
  intro x hx h
  rw [List.mem_range] at hx
  have := of_le h; omega
theorem piece_more {lv : Nat → Int} {b k m : Nat} (h : k ≤ m) (hno : ∀ x, k ≤ x → x < m → ofB lv b x = false) : pieceN lv b m = pieceN lv b k := by
  induction m with
  | zero => have : k = 0 := by omega
            subst this; rfl
  | succ m ih =>
    by_cases e : k = m + 1
    · subst e; rfl
    · rw [piece_succ, hno m (by omega) (by omega), ih (by omega) (fun x a b => hno x a (by omega))]; simp
theorem piece_last {lv : Nat → Int} {b : Nat} (hb : begB lv b = true) : ∀ k, b < k → ∃ p, pieceN lv b k = p ++ [lastP lv b k] := by
  intro k
  induction k with
  | zero => intro h; omega
  | succ k ih =>
    intro h
    rw [piece_succ]
    simp only [lastP]
    by_cases ho : ofB lv b k = true
    · rw [if_pos ho, if_pos ho]; exact ⟨_, rfl⟩
    · rw [if_neg ho, if_neg ho, List.append_nil]
      by_cases e : b = k
      · subst e; exact absurd (of_b hb) ho
      · exact ih (by omega)
theorem piece_mem {lv : Nat → Int} {b k x : Nat} : x ∈ pieceN lv b k ↔ x < k ∧ ofB lv b x = true := by
  unfold pieceN; rw [List.mem_filter, List.mem_range]
theorem piece_ne {lv : Nat → Int} {b n : Nat} (hb : begB lv b = true) (hbn : b < n) : pieceN lv b n ≠ [] := by
  obtain ⟨p, hp⟩ := piece_last hb n hbn
  rw [hp]; simp
theorem piece_head {lv : Nat → Int} {b n : Nat} (hb : begB lv b = true) (hbn : b < n) : ∃ r, pieceN lv b n = b :: r := by
  have h1 : pieceN lv b (b + 1) = [b] := by rw [piece_succ, piece_at lv hb, if_pos (of_b hb)]; rfl
  have : ∀ d, ∃ r, pieceN lv b (b + 1 + d) = b :: r := by
    intro d
    induction d with
    | zero => exact ⟨[], h1⟩
    | succ d ih =>
      obtain ⟨r, hr⟩ := ih
      refine ⟨r ++ (if ofB lv b (b + 1 + d) = true then [b + 1 + d] else []), ?_⟩
      show pieceN lv b (b + 1 + d + 1) = _
      rw [piece_succ, hr]; rfl
  obtain ⟨r, hr⟩ := this (n - (b + 1))
  rw [show b + 1 + (n - (b + 1)) = n by omega] at hr
  exact ⟨r, hr⟩
/-- Pieces lie one behind the other: what has a level up to the last one of a piece is of it. -/
theorem piece_full {lv : Nat → Int} {b n x : Nat} (hb : begB lv b = true) (hbn : b < n) (h1 : b ≤ x) (h2 : x ≤ lastP lv b n) (hs : 0 ≤ lv x) : ofB lv b x = true := by
  obtain ⟨a1, _, _⟩ := last_spec hb hbn
  have e := (of_seen a1).2
  have m1 := bg_mono (lv := lv) (show b + 1 ≤ x + 1 by omega)
  have m2 := bg_mono (lv := lv) (show x + 1 ≤ lastP lv b n + 1 by omega)
  rw [bg_beg hb] at m1
  exact of_mk hs (by omega)
/-- Behind a piece the next one with a level begins another one. -/
theorem next_beg {lv : Nat → Int} {b n k : Nat} (hb : begB lv b = true) (hbn : b < n) (h1 : lastP lv b n < k) (h2 : k < n) (hno : ∀ x, lastP lv b n < x → x < k → lv x < 0) (hs : 0 ≤ lv k) : begB lv k = true := by
  obtain ⟨a1, a2, a3⟩ := last_spec hb hbn
  cases h : begB lv k with
  | true => rfl
  | false =>
    exfalso
    have hbg : ∀ d, lastP lv b n + 1 + d ≤ k → bgL lv (lastP lv b n + 1 + d) = b := by
      intro d
      induction d with
      | zero => intro _; exact (of_seen a1).2
      | succ d ih =>
        intro hd
        show bgL lv (lastP lv b n + 1 + d + 1) = b
        rw [bg_stay (bg_unseen (hno _ (by omega) (by omega)))]
        exact ih (by omega)
    have := hbg (k - (lastP lv b n + 1)) (by omega)
    rw [show lastP lv b n + 1 + (k - (lastP lv b n + 1)) = k by omega] at this
    have := a3 k h1 h2
    rw [of_mk hs (by rw [bg_stay h]; assumption)] at this
    cases this
theorem runs_more {k m : Nat} (h : k ≤ m) (hno : ∀ x, k ≤ x → x < m → startN c lv mt x = false) : runsTo c lv n mt m = runsTo c lv n mt k := by
  unfold runsTo
  congr 1
  induction m with
  | zero => have : k = 0 := by omega
            subst this; rfl
  | succ m ih =>
    by_cases e : k = m + 1
    · subst e; rfl
    · rw [List.range_succ, List.filter_append, ih (by omega) (fun x a b => hno x a (by omega))]
      simp [hno m (by omega) (by omega)]
theorem runs_succ (k : Nat) : runsTo c lv n mt (k + 1) = runsTo c lv n mt k ++ (if startN c lv mt k = true then [chainN c lv n mt k] else []) := by
  unfold runsTo
  rw [List.range_succ, List.filter_append, List.map_append]
  congr 1
  by_cases h : startN c lv mt k = true
  · rw [if_pos h]; simp [h]
  · rw [if_neg h]; simp [h]
theorem start_beg {x : Nat} (h : startN c lv mt x = true) : begB lv x = true := by
  unfold startN at h; rw [Bool.and_eq_true] at h; exact h.1
theorem no_start {x : Nat} (h : begB lv x = false) : startN c lv mt x = false := by unfold startN; rw [h]; rfl
/-- Within a piece, behind its beginning, none begins; nor where nothing has a level. -/
theorem no_beg_in {b n x : Nat} (hb : begB lv b = true) (hbn : b < n) (h1 : b < x) (h2 : x ≤ lastP lv b n) : begB lv x = false := by
  cases h : begB lv x with
  | false => rfl
  | true =>
    have := piece_full hb hbn (by omega) h2 (beg_seen h)
    have := (of_seen this).2
    rw [bg_beg h] at this; omega
end
end Go.Proofs.YtgojdlbidjnmmaaGreat
