import Derived.Test.YtgojdlbidjnmmaaGreatRunsS2
namespace Go.Proofs.YtgojdlbidjnmmaaGreat
set_option linter.unusedSimpArgs false
set_option linter.unusedVariables false

section
variable {c lv : Nat → Int} {n : Nat} {mt : Nat → Nat}
theorem start_nopred (ht : Txt c lv n mt) {b b1 : Nat} (hs : startN c lv mt b = true) (hb : begB lv b1 = true) (hbn : b1 < n) (h : scN c lv n mt b1 = some b) : False := by
  obtain ⟨_, _, _, _, _, _, h22, hcl⟩ := sc_some ht hb hbn h
  unfold startN at hs
  rw [hcl] at hs
  simp [h22] at hs
theorem pred_inj (ht : Txt c lv n mt) {j b1 b2 : Nat} (hb1 : begB lv b1 = true) (hn1 : b1 < n) (h1 : scN c lv n mt b1 = some j) (hb2 : begB lv b2 = true) (hn2 : b2 < n) (h2 : scN c lv n mt b2 = some j) : b1 = b2 := by
  obtain ⟨_, _, _, _, _, m1, _⟩ := sc_some ht hb1 hn1 h1
  obtain ⟨_, _, _, _, _, m2, _⟩ := sc_some ht hb2 hn2 h2
  have e := mate_inj m1 m2
  have e1 := (of_seen (last_spec hb1 hn1).1).2
  have e2 := (of_seen (last_spec hb2 hn2).1).2
  rw [e] at e1
  exact e1.symm.trans e2
theorem has_pred (ht : Txt c lv n mt) {b : Nat} (hb : begB lv b = true) (hbn : b < n) (hs : startN c lv mt b = false) : ∃ b1, begB lv b1 = true ∧ b1 < b ∧ scN c lv n mt b1 = some b := by
  unfold startN at hs
  rw [hb] at hs
  simp only [Bool.true_and, Bool.not_eq_false', Bool.and_eq_true, decide_eq_true_eq] at hs
  obtain ⟨_, hcl⟩ := hs
  unfold closN at hcl
  rw [List.any_eq_true] at hcl
  obtain ⟨i, hi, h2⟩ := hcl
  rw [List.mem_range] at hi
  simp only [Bool.and_eq_true, beq_iff_eq] at h2
  obtain ⟨ho, rfl⟩ := h2
  obtain ⟨q1, q2⟩ := mate_last (ht.win i (by omega) ho hbn) hi hbn hb
  refine ⟨_, q1, by have := bg_lt lv i; omega, ?_⟩
  unfold scN
  rw [q2, if_pos ⟨ho, hbn⟩]
/-- One piece comes, by others, of another one. -/
def rch (c lv : Nat → Int) (n : Nat) (mt : Nat → Nat) : Nat → Nat → Nat → Prop
  | 0, s, b => s = b
  | d + 1, s, b => s = b ∨ ∃ b1, begB lv b1 = true ∧ b1 < n ∧ scN c lv n mt b1 = some b ∧ rch c lv n mt d s b1
theorem rch_pre {s j : Nat} (hs : begB lv s = true) (hn : s < n) (h : scN c lv n mt s = some j) : ∀ d b, rch c lv n mt d j b → rch c lv n mt (d + 1) s b
  | 0, b, e => by
    have e : j = b := e
    subst e
    exact .inr ⟨s, hs, hn, h, rfl⟩
  | d + 1, b, e => by
    rcases e with e | ⟨b1, h1, h2, h3, h4⟩
    · subst e; exact .inr ⟨s, hs, hn, h, .inl rfl⟩
    · exact .inr ⟨b1, h1, h2, h3, rch_pre hs hn h d b1 h4⟩
theorem chain_in (ht : Txt c lv n mt) : ∀ e s, begB lv s = true → s < n → n - s ≤ e → ∀ x, x ∈ chainN c lv n mt s → ∃ d b, rch c lv n mt d s b ∧ begB lv b = true ∧ b < n ∧ x ∈ pieceN lv b n := by
  intro e
  induction e with
  | zero => intro s _ h1 h2; omega
  | succ e ih =>
    intro s hs hn he x hx
    rw [chain_eq ht hs hn, List.mem_append] at hx
    rcases hx with hx | hx
    · exact ⟨0, s, rfl, hs, hn, hx⟩
    · cases hsc : scN c lv n mt s with
      | none => rw [hsc] at hx; simp at hx
      | some j =>
        rw [hsc] at hx
        obtain ⟨_, _, hj, hbj, hlt, _⟩ := sc_some ht hs hn hsc
        obtain ⟨d, b, h1, h2, h3, h4⟩ := ih j hbj hj (by omega) x hx
        exact ⟨d + 1, b, rch_pre hs hn hsc d b h1, h2, h3, h4⟩
theorem rch_one (ht : Txt c lv n mt) : ∀ e b, b ≤ e → ∀ d d' s s', startN c lv mt s = true → startN c lv mt s' = true → rch c lv n mt d s b → rch c lv n mt d' s' b → s = s' := by
  intro e
  induction e with
  | zero =>
    intro b hb d d' s s' h1 h2 r1 r2
    have key : ∀ d s, startN c lv mt s = true → rch c lv n mt d s b → s = b := fun d s hs r => by
      cases d with
      | zero => exact r
      | succ d =>
        rcases r with r | ⟨b1, q1, q2, q3, _⟩
        · exact r
        · obtain ⟨_, _, _, _, hlt, _⟩ := sc_some ht q1 q2 q3; omega
    rw [key d s h1 r1, key d' s' h2 r2]
  | succ e ih =>
    intro b hb d d' s s' h1 h2 r1 r2
    have key : ∀ d s, rch c lv n mt d s b → s = b ∨ ∃ d1 b1, begB lv b1 = true ∧ b1 < n ∧ scN c lv n mt b1 = some b ∧ rch c lv n mt d1 s b1 := fun d s r => by
      cases d with
      | zero => exact .inl r
      | succ d =>
        rcases r with r | ⟨b1, q1, q2, q3, q4⟩
        · exact .inl r
        · exact .inr ⟨d, b1, q1, q2, q3, q4⟩
    rcases key d s r1 with rfl | ⟨d1, b1, q1, q2, q3, q4⟩ <;> rcases key d' s' r2 with rfl | ⟨d2, b2, p1, p2, p3, p4⟩
    · rfl
    · exact (start_nopred ht h1 p1 p2 p3).elim
    · exact (start_nopred ht h2 q1 q2 q3).elim
    · have e12 := pred_inj ht q1 q2 q3 p1 p2 p3
      subst e12
      obtain ⟨_, _, _, _, hlt, _⟩ := sc_some ht q1 q2 q3
      exact ih b1 (by omega) d1 d2 s s' h1 h2 q4 p4
theorem cover (ht : Txt c lv n mt) : ∀ e b, b ≤ e → begB lv b = true → b < n → ∃ s, s < n ∧ startN c lv mt s = true ∧ ∃ p, chainN c lv n mt s = p ++ chainN c lv n mt b := by
  intro e
  induction e with
  | zero =>
    intro b hb hbb hbn
    cases hs : startN c lv mt b with
    | true => exact ⟨b, hbn, hs, [], rfl⟩
    | false => obtain ⟨b1, _, h2, _⟩ := has_pred ht hbb hbn hs; omega
  | succ e ih =>
    intro b hb hbb hbn
    cases hs : startN c lv mt b with
    | true => exact ⟨b, hbn, hs, [], rfl⟩
    | false =>
      obtain ⟨b1, h1, h2, h3⟩ := has_pred ht hbb hbn hs
      obtain ⟨s, hsn, hst, p, hp⟩ := ih b1 (by omega) h1 (by omega)
      refine ⟨s, hsn, hst, p ++ pieceN lv b1 n, ?_⟩
      rw [hp, chain_eq ht h1 (by omega), h3, List.append_assoc]
/-- A place in a run is seen, and is of the level of its first one. -/
theorem chain_lv (ht : Txt c lv n mt) : ∀ e s, begB lv s = true → s < n → n - s ≤ e → ∀ x, x ∈ chainN c lv n mt s → 0 ≤ lv x ∧ x < n ∧ lv x = lv s := by
  intro e
  induction e with
  | zero => intro s _ h1 h2; omega
  | succ e ih =>
    intro s hs hn he x hx
    rw [chain_eq ht hs hn, List.mem_append] at hx
    rcases hx with hx | hx
    · obtain ⟨h1, h2⟩ := piece_mem.1 hx
      exact ⟨(of_seen h2).1, h1, (of_beg h2).2⟩
    · cases hsc : scN c lv n mt s with
      | none => rw [hsc] at hx; simp at hx
      | some j =>
        rw [hsc] at hx
        obtain ⟨ho, hmj, hj, hbj, hlt, _⟩ := sc_some ht hs hn hsc
        obtain ⟨h1, h2, h3⟩ := ih j hbj hj (by omega) x hx
        have hl := last_spec hs hn
        have hw := ht.win _ hl.2.1 ho (by rw [hmj]; exact hj)
        rw [hmj] at hw
        have h4 := (of_beg hl.1).2
        exact ⟨h1, h2, by rw [h3, ← h4]; exact hw.same⟩
theorem runs_nodup (ht : Txt c lv n mt) : (runsTo c lv n mt n).flatten.Nodup := by
  unfold List.Nodup
  rw [List.pairwise_flatten]
  refine ⟨fun l hl => ?_, ?_⟩
  · unfold runsTo at hl
    rw [List.mem_map] at hl
    obtain ⟨s, hs, rfl⟩ := hl
    rw [List.mem_filter, List.mem_range] at hs
    exact (chain_len ht (n - s) s (start_beg hs.2) hs.1 (Nat.le_refl _)).1.imp (fun h => by omega)
  · unfold runsTo
    rw [List.pairwise_map]
    have hp : ((List.range n).filter (startN c lv mt)).Pairwise (fun a b => a < b) := List.pairwise_lt_range.sublist List.filter_sublist
    rw [List.pairwise_iff_getElem] at hp ⊢
    intro i j hi hj hij x hx y hy e
    subst e
    have m1 := List.getElem_mem hi
    have m2 := List.getElem_mem hj
    rw [List.mem_filter, List.mem_range] at m1 m2
    obtain ⟨d1, b1, r1, _, _, p1⟩ := chain_in ht n _ (start_beg m1.2) m1.1 (by omega) x hx
    obtain ⟨d2, b2, r2, _, _, p2⟩ := chain_in ht n _ (start_beg m2.2) m2.1 (by omega) x hy
    have e1 := (of_seen (piece_mem.1 p1).2).2
    have e2 := (of_seen (piece_mem.1 p2).2).2
    rw [e1] at e2
    subst e2
    have := rch_one ht b1 b1 (Nat.le_refl _) d1 d2 _ _ m1.2 m2.2 r1 r2
    have := hp i j hi hj hij
    omega
theorem runs_mem (ht : Txt c lv n mt) (x : Nat) : x ∈ (runsTo c lv n mt n).flatten ↔ x < n ∧ 0 ≤ lv x := by
  rw [List.mem_flatten]
  constructor
  · rintro ⟨l, hl, hx⟩
    unfold runsTo at hl
    rw [List.mem_map] at hl
    obtain ⟨s, hs, rfl⟩ := hl
    rw [List.mem_filter, List.mem_range] at hs
    obtain ⟨h1, h2, _⟩ := chain_lv ht n s (start_beg hs.2) hs.1 (by omega) x hx
    exact ⟨h2, h1⟩
  · rintro ⟨hx, h0⟩
    obtain ⟨h1, h2, _⟩ := of_self h0
    have hlt := bg_lt lv x
    obtain ⟨s, hsn, hst, p, hp⟩ := cover ht n (bgL lv (x + 1)) (by omega) h2 (by omega)
    refine ⟨chainN c lv n mt s, ?_, ?_⟩
    · unfold runsTo; rw [List.mem_map]; exact ⟨s, by rw [List.mem_filter, List.mem_range]; exact ⟨hsn, hst⟩, rfl⟩
    · rw [hp, chain_eq ht h2 (by omega)]
      simp only [List.mem_append]
      exact .inr (.inl (piece_mem.2 ⟨hx, h1⟩))
theorem runs_count (ht : Txt c lv n mt) (x : Nat) (hx : x < n) : (runsTo c lv n mt n).flatten.count x = if 0 ≤ lv x then 1 else 0 := by
  by_cases h : 0 ≤ lv x
  · rw [if_pos h]
    have hm := (runs_mem ht x).2 ⟨hx, h⟩
    have h1 := (List.nodup_iff_count.1 (runs_nodup ht)) x
    have h2 := List.count_pos_iff.2 hm
    omega
  · rw [if_neg h]
    exact List.count_eq_zero.2 (fun hm => h ((runs_mem ht x).1 hm).2)
end
end Go.Proofs.YtgojdlbidjnmmaaGreat
