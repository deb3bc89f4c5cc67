import Derived.Test.YtgjhhfmhaalcnaaLineHitI
import Derived.Test.YtgjhhfmhaalcnaaTop
namespace Go.Proofs.Ytgjhhfmhaalcnaa
open Go.ChangeShapes Go.WideShapes Go.ChangeAt Go.RowKit
set_option linter.unusedSimpArgs false

set_option maxHeartbeats 1000000 in
theorem szLine_any (f t d : Int) (a : Option Addr) (n cap : Nat) (w : World) (h : n ≤ 1048576) :
    Calls Try.prog 18 #[.agg #[.int .i64 f, .int .i64 t, .int .i64 d, .slice a n cap], .int .i64 1048576] w fun e w' => e = .returned (.int .i64 (1048576 - (n : Int))) ∧ Below w.heap.size w w' := by
  go_enter Try.func18, Try.ntmps18
  go_wp2_with fail
  refine (szGlys_any a n cap _ h).mono ?_
  rintro e w1 ⟨rfl, rfl⟩
  go_wp2_with fail
  go_ret
  exact ⟨rfl, below_alloc _ _⟩
set_option maxHeartbeats 1000000 in
theorem szLine_big (f t d : Int) (a : Option Addr) (n cap : Nat) (w : World) (h : 1048576 < n) (h2 : n ≤ maxLen) :
    Calls Try.prog 18 #[.agg #[.int .i64 f, .int .i64 t, .int .i64 d, .slice a n cap], .int .i64 1048576] w fun e w' => e = .returned (.int .i64 (-1)) ∧ Below w.heap.size w w' := by
  go_enter Try.func18, Try.ntmps18
  go_wp2_with fail
  refine (szGlys_big a n cap _ h h2).mono ?_
  rintro e w1 ⟨rfl, rfl⟩
  go_wp2_with fail
  go_ret
  exact ⟨rfl, below_alloc _ _⟩

set_option maxHeartbeats 4000000 in
theorem toLine_any (f t d : Int) (a : Option Addr) (n cap : Nat) (l : List Int) (w : World) (hv : ArgGL w a n cap l) (hl : n ≤ 1048576) :
    Calls Try.prog 21 #[.agg #[.int .i64 f, .int .i64 t, .int .i64 d, .slice a n cap]] w fun e w' => (∃ g, e = .returned (.agg #[.int .i64 f, .int .i64 t, .int .i64 d, .slice (some ⟨g, 0, none⟩) n n]) ∧ OwnG w' w.heap.size (.slice (some ⟨g, 0, none⟩) n n) n l) ∧ Below w.heap.size w w' := by
  go_enter Try.func21, Try.ntmps21
  go_wp2_with fail
  have HW : Hid (∀ w', Below w.heap.size w w' → ArgGL w' a n cap l) := fun w' b => hv.below b
  refine (toGlys_any a n cap l _ (HW.out _ (bstep (bstep (below_new _ _) (below_new _ _)) (below_new _ _))) hl).mono ?_
  rintro e w2 ⟨⟨g, rfl, o2⟩, b2⟩
  have hg := o2.lt g rfl
  have o0 := top_cell b2 (B := w.heap.size + 1 + 1) (by simp) 0 rfl
  have o1 := top_cell b2 (B := w.heap.size + 1 + 1) (by simp) 1 rfl
  have o22 := top_cell b2 (B := w.heap.size + 1 + 1) (by simp) 2 rfl
  have o3 := top_cell b2 (B := w.heap.size + 1 + 1) (by simp) 3 rfl
  have f3 := top_frozen b2 (B := w.heap.size + 1 + 1) (by simp) 3
  have b3 := bstep (below_new _ _) b2
  have p0 := top_cell b3 (B := w.heap.size + 1) (by simp) 0 rfl
  have p1 := top_cell b3 (B := w.heap.size + 1) (by simp) 1 rfl
  have p2 := top_cell b3 (B := w.heap.size + 1) (by simp) 2 rfl
  have p3 := top_cell b3 (B := w.heap.size + 1) (by simp) 3 rfl
  have q0 := top_frozen b3 (B := w.heap.size + 1) (by simp) 0
  have q1 := top_frozen b3 (B := w.heap.size + 1) (by simp) 1
  have q2 := top_frozen b3 (B := w.heap.size + 1) (by simp) 2
  have q3 := top_frozen b3 (B := w.heap.size + 1) (by simp) 3
  have B2 := bstep (bstep (below_new _ _) (below_new _ _)) b3
  have O2 : Hid _ := o2
  clear o2 b2 b3
  have hg1 : w.heap.size + 3 ≤ g := by have := hg.1; simp at this; omega
  have hO : OwnG w2 w.heap.size (.slice (some ⟨g, 0, none⟩) n n) n l := OwnG.mono O2.out (by simp; omega)
  have HO : Hid (OwnG w2 w.heap.size (.slice (some ⟨g, 0, none⟩) n n) n l) := hO
  have HB : Hid (Below w.heap.size w w2) := B2
  clear hO hg B2 O2
  go_wp2_with fail
  refine bodyPost_ret (v := .agg #[.int .i64 f, .int .i64 t, .int .i64 d, .slice (some ⟨g, 0, none⟩) n n]) ?_ rfl ⟨⟨g, rfl, ?_⟩, ?_⟩
  · obtain ⟨e0, e1, e2, e3⟩ := four_set (x0 := .int .i64 f) (x1 := .int .i64 t) (x2 := .int .i64 d) (x3 := .slice (some ⟨g, 0, none⟩) n n) (set_far (b := w.heap.size + 1 + 1) (i := 3) (x := .slice (some ⟨g, 0, none⟩) n n) (by omega) p0) (set_far (b := w.heap.size + 1 + 1) (i := 3) (x := .slice (some ⟨g, 0, none⟩) n n) (by omega) p1) (set_far (b := w.heap.size + 1 + 1) (i := 3) (x := .slice (some ⟨g, 0, none⟩) n n) (by omega) p2) (set_far (b := w.heap.size + 1 + 1) (i := 3) (x := .slice (some ⟨g, 0, none⟩) n n) (by omega) p3)
    simp [results, Try.results21, go_sem, e0, e1, e2, e3]
  · refine OwnG.kept HO.out (fun k hk => ?_)
    have ek : k = g := by simp [Value.ownBlock] at hk; omega
    subst ek
    rw [Below.heap_setCell _ _ _ _ (by dsimp only; omega), Below.heap_setCell _ _ _ _ (by dsimp only; omega), Below.heap_setCell _ _ _ _ (by dsimp only; omega), Below.heap_setCell _ _ _ _ (by dsimp only; omega), Below.heap_setCell _ _ _ _ (by dsimp only; omega)]
  · exact ((((HB.out.setCell (by show w.heap.size ≤ w.heap.size + 1 + 1; omega) _).setCell (by show w.heap.size ≤ w.heap.size + 1; omega) _).setCell (by show w.heap.size ≤ w.heap.size + 1; omega) _).setCell (by show w.heap.size ≤ w.heap.size + 1; omega) _).setCell (by show w.heap.size ≤ w.heap.size + 1; omega) _

set_option maxHeartbeats 1000000 in
theorem eqLine_yes (f t d : Int) (v1 v2 : Value) (n : Nat) (l : List Int) (w : World) (h1 : ArgG w v1 n l) (h2 : ArgG w v2 n l) (hl : n ≤ 4194304) :
    Calls Try.prog 23 #[.agg #[.int .i64 f, .int .i64 t, .int .i64 d, v1], .agg #[.int .i64 f, .int .i64 t, .int .i64 d, v2]] w fun e w' => e = .returned (.bool true) ∧ Below w.heap.size w w' := by
  have H1 : Hid (∀ w', Below w.heap.size w w' → ArgG w' v1 n l) := fun w' b => h1.below b
  have H2 : Hid (∀ w', Below w.heap.size w w' → ArgG w' v2 n l) := fun w' b => h2.below b
  by_cases h0 : n = 0
  · subst h0
    rcases h1 with ⟨a1, p1, rfl, _⟩ | ⟨g, p1, rfl, _⟩
    all_goals
      rcases h2 with ⟨a2, p2, rfl, _⟩ | ⟨g2, p2, rfl, _⟩
      all_goals
        go_enter Try.func23, Try.ntmps23
        go_wp2_with fail
        refine (eqGlys_yes _ _ 0 l _ ?_ ?_ hl).mono ?_
        · exact H1.out _ (bstep (below_new _ _) (below_new _ _))
        · exact H2.out _ (bstep (below_new _ _) (below_new _ _))
        rintro e w2 ⟨rfl, b2⟩
        go_wp2_with fail
        go_ret
        exact ⟨rfl, bstep (bstep (below_new _ _) (below_new _ _)) b2⟩
  · rcases h1 with ⟨a1, p1, _, e⟩ | ⟨g, p1, rfl, _⟩
    · exact absurd e h0
    rcases h2 with ⟨a1, p1, _, e⟩ | ⟨g2, p2, rfl, _⟩
    · exact absurd e h0
    go_enter Try.func23, Try.ntmps23
    go_wp2_with fail
    refine (eqGlys_yes _ _ n l _ ?_ ?_ hl).mono ?_
    · exact H1.out _ (bstep (below_new _ _) (below_new _ _))
    · exact H2.out _ (bstep (below_new _ _) (below_new _ _))
    rintro e w2 ⟨rfl, b2⟩
    go_wp2_with fail
    go_ret
    exact ⟨rfl, bstep (bstep (below_new _ _) (below_new _ _)) b2⟩
end Go.Proofs.Ytgjhhfmhaalcnaa
