import Derived.Test.YtgjhhfmhaalcnaaCutMe
namespace Go.Proofs.Ytgjhhfmhaalcnaa
open Go.ChangeShapes Go.WideShapes Go.ChangeAt Go.RowKit
set_option linter.unusedSimpArgs false

set_option maxHeartbeats 1000000 in
theorem each_any (a : Option Addr) (n ca : Nat) (w : World) :
    Calls Try.prog 43 #[.slice a n ca] w fun e w' => e = .returned (.func (Fn.func 70) #[] #[.pointer (some ⟨w.heap.size + 1, 0, none⟩), .pointer (some ⟨w.heap.size, 0, none⟩)]) ∧ w' = (w.alloc (.cells #[.slice a n ca] 33)).alloc (.cells #[.int .i64 0] 3) := by
  go_enter Try.func43, Try.ntmps43
  go_wp2_with fail
  go_ret
  exact ⟨rfl, rfl⟩

theorem four_blocks (w : World) (a b : Option Addr) (n m ca cb : Nat) :
    Mg ((((w.alloc (.cells #[.slice a n ca] 33)).alloc (.cells #[.int .i64 0] 3)).alloc (.cells #[.slice b m cb] 33)).alloc (.cells #[.int .i64 0] 3)) w.heap.size (w.heap.size + 1) (w.heap.size + 2) (w.heap.size + 3) (.slice a n ca) (.slice b m cb) 0 0 := by
  have e1 : ∀ o, (w.alloc o).heap.size = w.heap.size + 1 := fun o => by simp
  refine ⟨?_, ?_, ?_, ?_⟩
  · rw [Below.heap_alloc _ _ _ (by simp <;> omega), Below.heap_alloc _ _ _ (by simp <;> omega), Below.heap_alloc _ _ _ (by simp)]; exact heap_alloc_new w _
  · rw [Below.heap_alloc _ _ _ (by simp <;> omega), Below.heap_alloc _ _ _ (by simp)]
    have := heap_alloc_new (w.alloc (.cells #[.slice a n ca] 33)) (.cells #[.int .i64 0] 3)
    simpa using this
  · rw [Below.heap_alloc _ _ _ (by simp)]
    have := heap_alloc_new ((w.alloc (.cells #[.slice a n ca] 33)).alloc (.cells #[.int .i64 0] 3)) (.cells #[.slice b m cb] 33)
    simpa using this
  · have := heap_alloc_new (((w.alloc (.cells #[.slice a n ca] 33)).alloc (.cells #[.int .i64 0] 3)).alloc (.cells #[.slice b m cb] 33)) (.cells #[.int .i64 0] 3)
    simpa using this

set_option maxHeartbeats 2000000 in
theorem implCut (v u : Value) (n m B1 B2 : Nat) (la lb : List Int) (w : World) (h1 : OwnR w B1 v n la) (h2 : OwnR w B2 u m lb) :
    Calls Try.prog 16 #[v, u] w fun e w' => (∃ v' c, e = .returned v' ∧ OwnR w' w.heap.size v' c (cutL la lb n m)) ∧ Below w.heap.size w w' := by
  obtain ⟨a, ca, rfl, hn, ra, _⟩ := h1.rr
  obtain ⟨b, cb, rfl, hm, rb, _⟩ := h2.rr
  have HRA : Hid (RR w a n la) := ra
  have HRB : Hid (RR w b m lb) := rb
  have HLA : Hid (∀ g o, a = some ⟨g, o, none⟩ → g < w.heap.size) := fun g o e => (h1.lt g (by rw [e]; rfl)).2
  have HLB : Hid (∀ g o, b = some ⟨g, o, none⟩ → g < w.heap.size) := fun g o e => (h2.lt g (by rw [e]; rfl)).2
  have HTI : Hid ((endI (fn la) n ≠ 0 ∧ endI (fn la) n = endI (fn lb) m) ↔ Two (fn la) (fn lb) n m) := two_impl
  clear ra rb h1 h2
  obtain ⟨p, hp⟩ : ∃ p, endI (fn la) n = p := ⟨_, rfl⟩
  obtain ⟨q, hq⟩ : ∃ q, endI (fn lb) m = q := ⟨_, rfl⟩
  have HP : Hid _ := hp
  have HQ : Hid _ := hq
  rw [hp, hq] at HTI
  clear hp hq
  go_enter Try.func16, Try.ntmps16
  go_wp2_with fail
  refine (implEndR a n ca la _ HRA.out hn).mono ?_
  rintro e w1 ⟨rfl, b1⟩
  rw [HP.out]
  by_cases hp0 : p = 0
  · have hp1 : (p == 0) = true := by simpa using hp0
    have HN : Hid (cutL la lb n m = []) := cutL_no (fun t => (HTI.out.2 t).1 hp0)
    clear hp0
    go_wp2_with fail
    go_ret
    exact ⟨⟨_, 0, rfl, by rw [HN.out]; exact OwnR.nil _ _⟩, b1⟩
  · have hp1 : (p == 0) = false := by simpa using hp0
    have HP0 : Hid (p ≠ 0) := hp0
    clear hp0
    go_wp2_with fail
    refine (implEndR b m cb lb _ (HRB.out.step b1) hm).mono ?_
    rintro e w2 ⟨rfl, b2⟩
    rw [HQ.out]
    have B2 := bstep b1 b2
    by_cases hpq : p = q
    · have HT : Hid (Two (fn la) (fn lb) n m) := HTI.out.1 ⟨HP0.out, hpq⟩
      have hpq1 : (p == q) = true := by simpa using hpq
      have hpq2 : (p != q) = false := by simpa using hpq
      clear hpq
      go_wp2_with fail
      refine (each_any a n ca _).mono ?_
      rintro e w3 ⟨rfl, hw3⟩
      go_wp2_with fail
      refine (each_any b m cb _).mono ?_
      rintro e w4 ⟨rfl, hw4⟩
      have hs3 : ((w2.alloc (.cells #[.slice a n ca] 33)).alloc (.cells #[.int .i64 0] 3)).heap.size = w2.heap.size + 2 := by simp
      have MG : Mg w4 w2.heap.size (w2.heap.size + 1) (w2.heap.size + 2) (w2.heap.size + 3) (.slice a n ca) (.slice b m cb) 0 0 := by rw [hw4]; exact four_blocks w2 a b n m ca cb
      have B4 : Below w2.heap.size w2 w4 := by rw [hw4]; go_grown
      have hs4 : w4.heap.size = w2.heap.size + 4 := by rw [hw4]; simp
      rw [hs3]
      have HMG : Hid _ := MG
      clear hw4 MG
      go_wp2_with fail
      have RA4 := ((HRA.out.step B2).step B4)
      have RB4 := ((HRB.out.step B2).step B4)
      refine (merge_any w2.heap.size _ _ _ _ a b n m ca cb la lb _ ⟨by omega, by omega, by omega⟩ (Nat.le_refl _) (fun g o e => Nat.lt_of_lt_of_le (HLA.out g o e) B2.size) (fun g o e => Nat.lt_of_lt_of_le (HLB.out g o e) B2.size) HMG.out RA4 RB4 HT.out).mono ?_
      rintro e w5 ⟨⟨v5, c5, rfl, o5⟩, b5⟩
      go_wp2_with fail
      go_ret
      have s2 := B2.size
      exact ⟨⟨_, c5, rfl, by rw [cutL_yes HT.out]; exact o5.mono (by omega)⟩, (B2.trans (B4.mono B2.size)).trans (b5.mono B2.size)⟩
    · have hpq1 : (p == q) = false := by simpa using hpq
      have hpq2 : (p != q) = true := by simpa using hpq
      have HN : Hid (cutL la lb n m = []) := cutL_no (fun t => hpq (HTI.out.2 t).2)
      clear hpq
      go_wp2_with fail
      go_ret
      exact ⟨⟨_, 0, rfl, by rw [HN.out]; exact OwnR.nil _ _⟩, B2⟩
end Go.Proofs.Ytgjhhfmhaalcnaa
